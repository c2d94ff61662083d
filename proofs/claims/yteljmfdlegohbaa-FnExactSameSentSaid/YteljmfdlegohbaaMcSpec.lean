/- DERIVED. The reference's l8Action, l8Find: what a step holds, and its first place in a list. No condition. · The reference's l8Without: a list without one of its places. No condition. · The reference's IsMacro: it tells whether a macro is valid. Called with any steps, at most 1048576. -/
import Derived.Test.YteljmfdlegohbaaMcDef
import Derived.Test.YteljmfdlegohbaaAcOk
import Derived.Test.YteljmfdlegohbaaRpSpec5
import Derived.Deep.AppendLies
import Derived.Deep.RegionLaw
namespace Go.Proofs.Yteljmfdlegohbaa
open Go.RowKit

/-- An append of a region that draws its order, of any number of elements. -/
theorem step_append_any8 {P : Program} {w : World} {ops : Array Oper} {o : Oper} {a : Act} {K : Act → World → Prop} {Q : Exit → Act → World → Prop} {E : Prop} (hgd : o.guard = none) (s x : Operand) (t : TypeId)
    (ho : o.op = .call { callee := .builtin .append, args := #[s, x], argTypes := #[t, t] })
    (base : Nat) (e : TypeId) (i : TypeInfo) (z : Value) (size bytes : Nat) (ht : P.underlying t = some (.slice e)) (hi : P.info? e = some i) (hz : i.zero = some z)
    (hsize : i.size = size) (hby : i.bytes = bytes) (hzs : z.cells.size = size) (hsz : 0 < size)
    (v : Value) (n : Nat) (xs : List Value) (hs : a.eval s = v) (hown : w.ownsRow base e size v n xs)
    (ad : Addr) (m c : Nat) (news : List Value) (hx : a.eval x = .slice (some ad) m c) (hl : news.length = m * size) (hnews : ∀ j u, news[j]? = some u → w.cell? (ad.add j) = some u) (h1 : ∀ u ∈ news, u.oneCell' = true)
    (h63 : n + m ≤ maxLen) (hbytes : (n + m) * bytes ≤ 140737488355328) (hbase : base ≤ w.heap.size)
    (h : ∀ v' w', w'.ownsRow base e size v' (n + m) (xs ++ news) → w.grownBy w' v.ownBlock → K (a.put o.dst v') w') :
    if Region.wanted o (yielded ops a.tmps) = true then Oper.wp P o a w K Q else E := by
  have hw : Region.wanted o (yielded ops a.tmps) = true := by simp [Region.wanted, hgd]
  rw [if_pos hw]
  exact wp_append_own w s x t ho base e i z size bytes ht hi hz hsize hby hzs hsz v n xs hs hown ad m c news hx hl hnews h1 h63 hbytes hbase fun v' w' h2 h3 _ => h v' w' h2 h3
theorem flatHd_take (d : List Hd) (k : Nat) (hk : k ≤ d.length) : flatHd (d.take k) = (flatHd d).take (k * 5) := by
  have h1 : flatHd d = flatHd (d.take k) ++ flatHd (d.drop k) := by
    unfold flatHd; rw [← List.flatMap_append, List.take_append_drop]
  have h2 : (flatHd (d.take k)).length = k * 5 := by rw [flatHd_len, List.length_take]; omega
  rw [h1, ← h2, List.take_left]
theorem flatHd_drop (d : List Hd) (k : Nat) (hk : k ≤ d.length) : flatHd (d.drop k) = (flatHd d).drop (k * 5) := by
  have h1 : flatHd d = flatHd (d.take k) ++ flatHd (d.drop k) := by
    unfold flatHd; rw [← List.flatMap_append, List.take_append_drop]
  have h2 : (flatHd (d.take k)).length = k * 5 := by rw [flatHd_len, List.length_take]; omega
  rw [h1, ← h2, List.drop_left]
theorem erase_flat (d : List Hd) (k : Nat) : flatHd (d.take k) ++ flatHd (d.drop (k + 1)) = flatHd (d.eraseIdx k) := by
  unfold flatHd; rw [← List.flatMap_append, List.eraseIdx_eq_take_drop_succ]
/-- Cells of an owned row, from a place on, in whatever world that keeps it. -/
theorem owned_news {w : World} {B c n g cap : Nat} {T : TypeId} {xs : List Value} (h : w.ownsRow B T c (.slice (some ⟨g, 0, none⟩) n cap) n xs) (o : Nat) (ys : List Value) (hy : ∀ q u, ys[q]? = some u → xs[o + q]? = some u) :
    ∀ w', Below w.heap.size w w' → ∀ q u, ys[q]? = some u → w'.cell? ((⟨g, o, none⟩ : Addr).add q) = some u := by
  intro w' hb q u hu
  have h2 := hy q u hu
  have hl := (List.getElem?_eq_some_iff.mp h2).1
  have hadd : (⟨g, o, none⟩ : Addr).add q = ⟨g, o + q, none⟩ := by unfold Addr.add; split <;> simp_all
  rw [hadd, hb.cell (p := ⟨g, o + q, none⟩) (h.lt g (by simp [Value.ownBlock])).2, World.ownsRow.cellAt h (o + q) (by rw [← h.1]; exact hl), h2]

theorem st_at {w : World} {ua : Option Addr} {m uc : Nat} {l : List St} (h : RdN w (.slice ua m uc) l.length (flatSt l)) {k : Nat} (hk : k < l.length) : ∃ b off, ua = some ⟨b, off, none⟩ ∧ b < w.heap.size ∧
    w.cell? ⟨b, off + k * 3, none⟩ = some (.int .i64 (stD l k).k) ∧ w.cell? ⟨b, off + k * 3 + 1, none⟩ = some (.int .i64 (stD l k).c) ∧ w.cell? ⟨b, off + k * 3 + 2, none⟩ = some (.int .i64 (stD l k).m) := by
  rcases rd_sts (l := l) h with ⟨rfl, _⟩ | ⟨b, off, cap, _, hs, hlt, hc⟩
  · simp at hk
  · obtain ⟨rfl, _, _⟩ := by simpa using hs
    exact ⟨b, off, rfl, hlt, hc k hk⟩
theorem nxS_zero {d : List Hd} {x : St} (h : x.k = 0) : nxS d x = d := by rw [nxS, if_neg (by omega), if_neg (by omega)]
theorem nxS_one {d : List Hd} {x : St} (h : x.k = 1) : nxS d x = d ++ [stA x] := by rw [nxS, if_pos h]
theorem nxS_two {d : List Hd} {x : St} (h : x.k = 2) : nxS d x = d.eraseIdx (fiH d x) := by rw [nxS, if_neg (by omega), if_pos h]

end Go.Proofs.Yteljmfdlegohbaa
