/- DERIVED. The reference's l8Report: the report of held keys and of what a macro presses beside. · The steps of the reference's MacroReports on its two lists: a report is appended to the reports, a held key to what is down. No condition. · The reference's MacroReports: the reports of a macro that is played while keys are held. -/
import Derived.Test.YteljmfdlegohbaaMcSpec
import Derived.Test.YteljmfdlegohbaaMcMath
import Derived.StillTailTactics
import Derived.Test.YteljmfdlegohbaaOwnBase
namespace Go.Proofs.Yteljmfdlegohbaa
open Go.RowKit

/-- One of the first q codes is c. -/
def hasZ (z : List Int) (c : Int) : Nat → Bool
  | 0 => false
  | q + 1 => hasZ z c q || decide (z.getD q 0 = c)
theorem hasZ_ex {z : List Int} {c : Int} : ∀ n, n ≤ z.length → (hasZ z c n = true ↔ c ∈ z.take n)
  | 0, _ => by simp [hasZ]
  | n + 1, h => by
    rw [hasZ, Bool.or_eq_true, hasZ_ex n (by omega), decide_eq_true_eq, List.take_succ_eq_append_getElem (by omega : n < z.length), List.mem_append, List.mem_singleton, List.getD_eq_getElem?_getD, List.getElem?_eq_getElem (by omega : n < z.length)]
    exact ⟨fun h => h.elim .inl (fun e => .inr e.symm), fun h => h.elim .inl (fun e => .inr e.symm)⟩
theorem hasZ_all (z : List Int) (c : Int) : hasZ z c z.length = decide (c ∈ z) := by
  have := hasZ_ex (z := z) (c := c) z.length (Nat.le_refl _)
  rw [List.take_length] at this
  rcases hc : hasZ z c z.length with _ | _
  · exact (decide_eq_false fun hm => by rw [this.mpr hm] at hc; exact absurd hc (by decide)).symm
  · exact (decide_eq_true (this.mp hc)).symm

abbrev rpF (m : Int) : List Value := [.int .i64 m]
theorem rpF_len (m : Int) : (rpF m).length = 1 := rfl
theorem info_rp : (Try.prog.info? 62).map (fun i => (i.zero, i.size, i.bytes)) = some (some (.agg #[.int .i64 0, .slice none 0 0]), 2, 32) := by kernel_rfl
/-- Reports in memory of the caller's own. -/
def MrO (L : List Rv) (w : World) (e : Ending) (w' : World) : Prop := ∃ a c fp, e = .returned (.slice a L.length c) ∧ OwP rpF w' w.heap.size 62 1 (.slice a L.length c) L fp ∧ Below w.heap.size w w'
/-- A row of numbers, as a datum. -/
theorem owC_row {w : World} {B : Nat} {a : Option Addr} {c : Nat} {zs : List Int} (h : w.ownsRow B 3 1 (.slice a zs.length c) zs.length (zs.map (.int .i64))) (hl : zs.length ≤ 1048576) :
    ∃ fq, OwC w B (.row [.int .i64]) (.slice a zs.length c) (.row (ones zs)) fq ∧ fq.Nodup ∧ ∀ b ∈ fq, B ≤ b ∧ b < w.heap.size := by
  obtain ⟨fp, hn, ho⟩ := owC_ints h (by unfold maxLen; omega)
  exact ⟨fp, ho, hn, ho.rng⟩

/-- What is known of the two lists, the reports and what is down, and of the step's box, in a world. -/
structure MrW (W : World) (B : Nat) (ao : Option Addr) (L : List Rv) (co : Nat) (ad : Option Addr) (d : List Hd) (cd : Nat) (fp : List Nat) : Prop where
  out : OwP rpF W B 62 1 (.slice ao L.length co) L fp
  dn : W.ownsRow B 212 5 (.slice ad d.length cd) d.length (flatHd d)
  dis : ∀ b ∈ fp, b ∉ ownFp (.slice ad d.length cd)
theorem MrW.below {W W' : World} {B : Nat} {ao ad : Option Addr} {L : List Rv} {co cd : Nat} {d : List Hd} {fp : List Nat} (h : MrW W B ao L co ad d cd fp) (hb : Below W.heap.size W W') : MrW W' B ao L co ad d cd fp :=
  ⟨h.out.below hb, owns_below h.dn hb, h.dis⟩
theorem turn_of_grown {w w' : World} {v : Value} (hg : w.grownBy w' v.ownBlock) : Turn w w' (ownFp v) := by
  unfold ownFp
  rcases hv : v.ownBlock with _ | q
  · rw [hv] at hg
    exact ⟨hg.os, hg.tape, hg.output, hg.size, fun k hk _ => hg.block k hk (by simp)⟩
  · rw [hv] at hg
    exact Turn.of_grown hg
theorem head_fp {w : World} {B k : Nat} {T : TypeId} {v : Value} {L : List Rv} {fp : List Nat} (h : OwP rpF w B T k v L fp) : ∀ b ∈ ownFp v, b ∈ fp := by
  obtain ⟨us, fps, h, rfl⟩ := h
  exact fun b hb => List.mem_append_left _ hb
/-- A held key was appended to what is down. -/
theorem MrW.down {W W' : World} {B : Nat} {ao ad a' : Option Addr} {L : List Rv} {co cd c' : Nat} {d d' : List Hd} {fp : List Nat} (h : MrW W B ao L co ad d cd fp)
    (hg : W.grownBy W' (Value.slice ad d.length cd).ownBlock) (h' : W'.ownsRow B 212 5 (.slice a' d'.length c') d'.length (flatHd d'))
    (hat : ∀ b ∈ ownFp (.slice a' d'.length c'), b ∈ ownFp (.slice ad d.length cd) ∨ W.heap.size ≤ b) : MrW W' B ao L co a' d' c' fp := by
  have ht := turn_of_grown hg
  refine ⟨h.out.turn ht (fun b hb => h.dis b hb), h', fun b hb hb' => ?_⟩
  rcases hat b hb' with h1 | h1
  · exact h.dis b hb h1
  · have := (h.out.rng b hb).2; omega
/-- What is down was made anew. -/
theorem MrW.anew {W W' : World} {B B' : Nat} {ao ad a' : Option Addr} {L : List Rv} {co cd c' : Nat} {d d' : List Hd} {fp : List Nat} (h : MrW W B ao L co ad d cd fp)
    (hb : Below W.heap.size W W') (hB : B ≤ B') (hW : W.heap.size ≤ B') (h' : W'.ownsRow B' 212 5 (.slice a' d'.length c') d'.length (flatHd d')) : MrW W' B ao L co a' d' c' fp := by
  refine ⟨h.out.below hb, owns_base h' hB, fun b hm hm' => ?_⟩
  have h1 := ((OwF.mk' h').rng b hm').1
  have := (h.out.rng b hm).2
  omega
/-- A report was appended. -/
theorem MrW.push {W wb wc : World} {B g2 cap2 : Nat} {ao ad : Option Addr} {L : List Rv} {co cd : Nat} {d : List Hd} {us : List Value} {fps : List (List Nat)} {m : Int} {z : List Int} {u : Value} {fq : List Nat}
    (h : MrW W B ao L co ad d cd (ownFp (.slice ao L.length co) ++ fps.flatten)) (hq : OwQ rpF W B (.slice ao L.length co) (W.ownsRow B 62 (1 + 1) (.slice ao L.length co) L.length) us L fps)
    (hb : Below W.heap.size W wb) (hu : OwC wb W.heap.size (.row [.int .i64]) u (.row (ones z)) fq) (hn : fq.Nodup) (hBW : B ≤ W.heap.size)
    (h' : wc.ownsRow B 62 (1 + 1) (.slice (some ⟨g2, 0, none⟩) (L.length + 1) cap2) (L.length + 1) (pC rpF L us ++ (rpF m ++ [u]))) (hg : wb.grownBy wc (Value.slice ao L.length co).ownBlock) (hat : (Value.slice ao L.length co).ownBlock = some g2 ∨ g2 = wb.heap.size) :
    ∃ fp', MrW wc B (some ⟨g2, 0, none⟩) (L ++ [(m, z)]) cap2 ad d cd fp' ∧ ∀ b ∈ fp', b ∈ ownFp (.slice ao L.length co) ++ fps.flatten ∨ W.heap.size ≤ b := by
  have hb' : Turn W wb [] := Turn.of_below hb []
  have hq2 : OwQ rpF wb B (.slice ao L.length co) (wb.ownsRow B 62 (1 + 1) (.slice ao L.length co) L.length) us L fps := hq.turn (owns_below hq.own hb) hb' (fun _ _ hm => by simp at hm)
  have hrng := h.out.rng
  have hru := hu.rng
  have hpush := OwP.push (p := (m, z)) hq2 (OwC.base _ _ _ _ hu hBW) hn (fun b hb1 hb2 => by have := (hru b hb1).1; have := (hrng b hb2).2; omega) h' hg hat
  have hnew : ∀ b ∈ g2 :: (fps.flatten ++ fq), b ∈ ownFp (.slice ao L.length co) ++ fps.flatten ∨ W.heap.size ≤ b := by
    intro b hb1
    rcases List.mem_cons.1 hb1 with rfl | hb1
    · rcases hat with e | e
      · exact .inl (List.mem_append_left _ (by simp [ownFp, e]))
      · exact .inr (by have := hb.size; omega)
    · rcases List.mem_append.1 hb1 with h1 | h1
      · exact .inl (List.mem_append_right _ h1)
      · exact .inr (hru b h1).1
  refine ⟨_, ⟨by rw [List.length_append]; exact hpush, ?_, fun b hb1 hb2 => ?_⟩, hnew⟩
  · refine ((OwF.mk' (owns_below h.dn hb)).turn (turn_of_grown hg) (fun b hb1 hb2 => ?_)).1
    exact h.dis b (List.mem_append_left _ hb2) hb1
  · rcases hnew b hb1 with h1 | h1
    · exact h.dis b h1 hb2
    · have := ((OwF.mk' h.dn).rng b hb2).2; omega
end Go.Proofs.Yteljmfdlegohbaa

namespace Go.Proofs.Yteljmfdlegohbaa
open Go.RowKit

theorem mcN_pre {l : List St} : ∀ {m : Nat}, mcN l m = true → ∀ j, j ≤ m → mcN l j = true
  | 0, h, j, hj => by obtain rfl : j = 0 := by omega
                      exact h
  | m + 1, h, j, hj => by
    by_cases e : j = m + 1
    · subst e; exact h
    · rw [mcN, Bool.and_eq_true] at h
      exact mcN_pre h.1 j (by omega)
theorem fiI_snoc {d : List Hd} {k c m : Int} (h : fiH d ⟨k, c, m⟩ = d.length) : fiI (d ++ [(⟨0, 2, c, m, 0⟩ : Hd)]) ⟨k, c, m⟩ = (d.length : Int) := by
  refine fiI_at (j := d.length) (by simp) (fun q hq => ?_) (by simp [mtS, hdD])
  have e : hdD (d ++ [(⟨0, 2, c, m, 0⟩ : Hd)]) q = hdD d q := by
    rw [hdD, hdD, List.getD_eq_getElem?_getD, List.getElem?_append_left hq, List.getD_eq_getElem?_getD]
  rw [e]
  have hx := List.findIdx_eq_length.mp h
  have h2 := hx d[q] (List.getElem_mem hq)
  rw [hdD, List.getD_eq_getElem?_getD, List.getElem?_eq_getElem hq]
  exact h2
theorem new_fp {gd n c H H' : Nat} {v : Value} (hat : v.ownBlock = some gd ∨ gd = H') (hH : H ≤ H') : ∀ b ∈ ownFp (.slice (some ⟨gd, 0, none⟩) n c), b ∈ ownFp v ∨ H ≤ b := by
  intro b hb
  have hb' : b = gd := by simpa [ownFp, Value.ownBlock] using hb
  subst hb'
  rcases hat with h1 | h1
  · exact .inl (by simp [ownFp, h1])
  · exact .inr (by omega)
theorem erase_last {d : List Hd} {e : Hd} : (d ++ [e]).eraseIdx d.length = d := by
  rw [List.eraseIdx_eq_take_drop_succ, List.take_left, List.drop_of_length_le (by simp), List.append_nil]

end Go.Proofs.Yteljmfdlegohbaa
