/- DERIVED. The program's LayerAt and ActionAt: each returns what a plain function says. · 'copy' between two rows of one length whose elements may have several cells, the first one owned. No condition. · The program's grid: whether it has a cell, and a copy with one cell anew, in memory of its own. · The program's SetAction: a keymap with one action anew, in memory of its own. -/
import Derived.Test.YtbpopgplpipfeaaKmImpl
import Derived.Test.YtbpopgplpipfeaaCore
import Derived.Laws.CopyOwn
import Derived.Test.YtbpopgplpipfeaaKmSpec5
import Derived.Test.YtbpopgplpipfeaaLawBits
import Derived.Deep.RegionHeld3
import Derived.Deep.DeepCutAuto
namespace Go.Proofs.Ytbpopgplpipfeaa
open Go.RowKit

theorem bit01 (z : Int) (k : Nat) : bits .and .i64 (z / 2 ^ k) 1 = 0 ∨ bits .and .i64 (z / 2 ^ k) 1 = 1 := by
  unfold bits
  have e : (BitVec.ofInt 64 1).toNat = 1 := by decide
  have hle : (BitVec.ofInt 64 (z / 2 ^ k) &&& BitVec.ofInt 64 1).toNat ≤ 1 := by
    rw [BitVec.toNat_and, e]; exact Nat.and_le_right
  show IntKind.i64.wrap ((BitVec.ofInt 64 (z / 2 ^ k) &&& BitVec.ofInt 64 1).toNat : Int) = 0 ∨ IntKind.i64.wrap ((BitVec.ofInt 64 (z / 2 ^ k) &&& BitVec.ofInt 64 1).toNat : Int) = 1
  generalize (BitVec.ofInt 64 (z / 2 ^ k) &&& BitVec.ofInt 64 1).toNat = m at hle
  rw [IntWalk.i64_in _ ⟨by omega, by omega⟩]
  omega
theorem hasKey_on (z : Int) (k : Nat) (b : Bool) (hb : b = bitOn z k) (w : World) (hk : k < 62) : Calls Try.prog 54 #[.int .i64 z, .int .i64 k] w fun e w' => e = .returned (.bool b) ∧ w = w' := by
  rw [hb]
  rcases bit01 z k with h | h
  · have hv : bitOn z k = false := by unfold bitOn; rw [h]; rfl
    rw [hv]
    clear hv
    go_enter Try.func54, Try.ntmps54
    go_wp2
    go_ret
    exact ⟨rfl, rfl⟩
  · have hv : bitOn z k = true := by unfold bitOn; rw [h]; rfl
    rw [hv]
    clear hv
    go_enter Try.func54, Try.ntmps54
    go_wp2
    go_ret
    exact ⟨rfl, rfl⟩

theorem run_copy_whole {P : Program} (w : World) (dT sT ty elem : TypeId) (c g n dCap : Nat) (a : Addr) (sCap : Nat) (cur : Array Value) (t : TypeId) (cs : List Value)
    (hu : P.underlying dT = some (.slice elem)) (hs : (P.info? elem).map (·.size) = some c)
    (hg : w.heap[g]? = some (.cells cur t (0, 0))) (hn : cs.length = n * c)
    (hsrc : ∀ j v, cs[j]? = some v → w.cell? (a.add j) = some v) (hfit : cs.length ≤ cur.size) (h1 : ∀ v ∈ cs, v.oneCell' = true) :
    (Builtin.copy_ #[dT, sT] ty #[.slice (some ⟨g, 0, none⟩) n dCap, .slice (some a) n sCap]).run P w =
      .ok (goInt n) (w.setRow g (cs ++ cur.toList.drop cs.length).toArray) := by
  have hl := run_loadCells_list (P := P) w a cs hsrc
  have hst := run_storeCells_at P g 0 t cs 0 cur w hg (by simpa using hfit) h1
  cases hq : P.info? elem with
  | none => simp [hq] at hs
  | some i =>
    have hi : i.size = c := by simpa [hq] using hs
    simp [Builtin.copy_, run_underlying hu, Builtin.lenOf, Builtin.firstCells, sizeOf, typeInfo, hq, hi, ← hn, hl, hst]

theorem wpList_copy_all {P : Program} {w : World} {ops : Array Oper} {rest : List Oper} {o : Oper} {a : Act} {Q : Exit → Act → World → Prop} (hgd : o.guard = none) (d s : Operand) (dT sT : TypeId)
    (ho : o.op = .call { callee := .builtin .copy, args := #[d, s], argTypes := #[dT, sT] }) (elem : TypeId) (c : Nat) (hu : P.underlying dT = some (.slice elem)) (hsz : (P.info? elem).map (·.size) = some c)
    (base g n dCap : Nat) (ad : Addr) (sCap : Nat) (hd : a.eval d = .slice (some ⟨g, 0, none⟩) n dCap) (hs : a.eval s = .slice (some ad) n sCap)
    (e : TypeId) (xs cs : List Value) (hown : w.ownsRow base e c (.slice (some ⟨g, 0, none⟩) n dCap) n xs) (hn : cs.length = n * c)
    (hsrc : ∀ j v, cs[j]? = some v → w.cell? (ad.add j) = some v) (h1 : ∀ v ∈ cs, v.oneCell' = true)
    (h : ∀ w', w'.ownsRow base e c (.slice (some ⟨g, 0, none⟩) n dCap) n cs → w.grownBy w' (some g) → wpList P ops Q rest (a.put o.dst (goInt n)) w') :
    wpList P ops Q (o :: rest) a w := by
  obtain ⟨hx, h2⟩ := hown
  rcases h2 with ⟨h2, _⟩ | ⟨g', cap', cur, h2, hg, hh, hnc, hcm, hcs, ht⟩
  · simp at h2
  · simp only [Value.slice.injEq, Option.some.injEq, Addr.mk.injEq, and_true, true_and] at h2
    obtain ⟨rfl, rfl⟩ := h2
    have hle : n * c ≤ cur.size := by rw [hcs]; exact Nat.mul_le_mul_right _ hnc
    refine wpList_plain hgd fun K hK => ?_
    have hrun := run_copy_whole (P := P) w dT sT o.type elem c g n dCap ad sCap cur e cs hu hsz hh hn hsrc (by omega) h1
    unfold Oper.wp
    simp [execOp, ho, resolve, invoke, builtin, hd, hs, hrun, Result.andThen]
    refine hK _ _ (h _ ⟨hn, .inr ⟨g, dCap, _, rfl, hg, setRow_heap w g cur _ e _ hh, hnc, hcm, ?_, ?_⟩⟩ ⟨rfl, rfl, rfl, by simp, fun k _ hk => setRow_other w g k _ (fun e => hk (by simp [e]))⟩)
    · simp; omega
    · simp [← hn]
end Go.Proofs.Ytbpopgplpipfeaa

namespace Go.Proofs.Ytbpopgplpipfeaa
open Go.RowKit

theorem made_acs (K : Nat) : (madeCells #[Value.int .i64 0, .int .i64 0, .int .i64 0, .int .i64 0] (K * 4)).toList = (List.replicate K (⟨0, 0, 0, 0⟩ : Ac)).flatMap Ac.cells := by
  have h1 : (madeCells #[Value.int .i64 0, .int .i64 0, .int .i64 0, .int .i64 0] (K * 4)).toList = List.replicate (K * 4) (.int .i64 0) := by
    apply List.ext_getElem?
    intro j
    by_cases hj : j < K * 4
    · rw [List.getElem?_replicate, if_pos hj, Array.getElem?_toList, Array.getElem?_eq_getElem (by rw [size_madeCells]; exact hj)]
      simp only [madeCells, Array.getElem_map, Array.getElem_range]
      have h4 : j % 4 < 4 := Nat.mod_lt _ (by decide)
      show some ((#[Value.int .i64 0, .int .i64 0, .int .i64 0, .int .i64 0] : Array Value)[j % 4]!) = _
      generalize j % 4 = q at h4
      have : q = 0 ∨ q = 1 ∨ q = 2 ∨ q = 3 := by omega
      rcases this with rfl | rfl | rfl | rfl <;> rfl
    · rw [List.getElem?_eq_none (by simp [size_madeCells]; omega), List.getElem?_eq_none (by simp; omega)]
  rw [h1]
  clear h1
  induction K with
  | zero => rfl
  | succ K ih => rw [List.replicate_succ, List.flatMap_cons, ← ih, show (K + 1) * 4 = 4 + K * 4 by omega, ← List.replicate_append_replicate]; rfl

end Go.Proofs.Ytbpopgplpipfeaa
