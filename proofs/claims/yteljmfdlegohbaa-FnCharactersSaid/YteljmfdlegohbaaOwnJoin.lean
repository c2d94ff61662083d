/- DERIVED. A slice of structs that hold a slice, to which all elements of another one are appended: the new one owns what both owned. No condition. -/
import Derived.Test.YteljmfdlegohbaaOwnBase
import Derived.Test.YteljmfdlegohbaaAppRd
namespace Go.Proofs.Yteljmfdlegohbaa
open Go.RowKit

theorem pC_flat {α : Type} {f : α → List Value} {us : List Value} {L : List (α × List Int)} (h1 : ∀ a, ∀ u ∈ f a, u.oneCell' = true) (h : ∀ j, j < L.length → ∃ a n c, uD us j = .slice a n c) (hl : us.length = L.length) : ∀ u ∈ pC f L us, u.oneCell' = true :=
  pC_one h1 L us fun u hu => by
    obtain ⟨j, hj, rfl⟩ := List.getElem_of_mem hu
    obtain ⟨a, n, c, e⟩ := h j (by omega)
    rw [uD, List.getD_eq_getElem?_getD, List.getElem?_eq_getElem hj] at e
    simp at e
    rw [e]; rfl
section
variable {α : Type} [Inhabited α] {f : α → List Value} {w w' : World} {B k : Nat} {T : TypeId}

theorem qD_append (L M : List (α × List Int)) (j : Nat) : qD (L ++ M) j = if j < L.length then qD L j else qD M (j - L.length) := by
  unfold qD
  rw [List.getD_eq_getElem?_getD]
  split <;> rename_i h
  · rw [List.getElem?_append_left h, List.getD_eq_getElem?_getD]
  · rw [List.getElem?_append_right (by omega), List.getD_eq_getElem?_getD]
theorem uD_append (us vs : List Value) (j : Nat) : uD (us ++ vs) j = if j < us.length then uD us j else uD vs (j - us.length) := by
  unfold uD
  rw [List.getD_eq_getElem?_getD]
  split <;> rename_i h
  · rw [List.getElem?_append_left h, List.getD_eq_getElem?_getD]
  · rw [List.getElem?_append_right (by omega), List.getD_eq_getElem?_getD]
theorem fD_append (us vs : List (List Nat)) (j : Nat) : fD (us ++ vs) j = if j < us.length then fD us j else fD vs (j - us.length) := by
  unfold fD
  rw [List.getD_eq_getElem?_getD]
  split <;> rename_i h
  · rw [List.getElem?_append_left h, List.getD_eq_getElem?_getD]
  · rw [List.getElem?_append_right (by omega), List.getD_eq_getElem?_getD]
theorem OwZ.shape {v : Value} {L : List (α × List Int)} {fp : List Nat} (h : OwZ f w B k v L fp) : ∃ a cap, v = .slice a L.length cap := h.rd.shape
theorem OwP.shape {v : Value} {L : List (α × List Int)} {fp : List Nat} (h : OwP f w B T k v L fp) : ∃ a cap, v = .slice a L.length cap := h.rd.shape
theorem owC_slice {w : World} {B : Nat} {v : Value} {z : List Int} {fp : List Nat} (h : OwC w B (.row [.int .i64]) v (.row (ones z)) fp) : ∃ a n c, v = .slice a n c := by
  obtain ⟨a, c, e, _⟩ := owC_rd h
  exact ⟨_, _, _, e⟩

/-- What the machine does at 'append(a, b...)'. -/
theorem run_append_join {P : Program} (t ty : TypeId) (i : TypeInfo) (z : Value) (bytes : Nat) (ht : P.underlying t = some (.slice T)) (hi : P.info? T = some i) (hz : i.zero = some z)
    (hsize : i.size = k + 1) (hby : i.bytes = bytes) (hzs : z.cells.size = k + 1) (hf : ∀ a, (f a).length = k) (h1 : ∀ a, ∀ u ∈ f a, u.oneCell' = true)
    {v u : Value} {L M : List (α × List Int)} {fp fq : List Nat} (h : OwP f w B T k v L fp) (h2 : OwZ f w B k u M fq) (hd : ∀ b ∈ fp, b ∉ fq)
    (h63 : L.length + M.length ≤ maxLen) (hbytes : (L.length + M.length) * bytes ≤ 140737488355328) (hbase : B ≤ w.heap.size) :
    ∃ a c w' fp', (Builtin.append_ #[t, t] ty #[v, u]).run P w = .ok (.slice a (L ++ M).length c) w' ∧ OwP f w' B T k (.slice a (L ++ M).length c) (L ++ M) fp' ∧ (∀ b ∈ fp', b ∈ fp ∨ b ∈ fq ∨ w.heap.size ≤ b) ∧ w.grownBy w' v.ownBlock ∧ (∀ q, v.ownBlock = some q → q ∈ fp) := by
  have hrng := h.rng
  have hrng2 := h2.rng
  obtain ⟨av, cv, rfl⟩ := h.shape
  obtain ⟨au, cu, rfl⟩ := h2.shape
  have h0 := h
  obtain ⟨us, fps, hq, rfl⟩ := h
  obtain ⟨vs, fqs, hq2, rfl⟩ := h2
  have hob : ∀ q, (Value.slice av L.length cv).ownBlock = some q → q ∈ ownFp (.slice av L.length cv) ++ fps.flatten := fun q hq => List.mem_append_left _ (by rw [ownFp, hq]; simp)
  by_cases hM : M = []
  · subst hM
    have hrd : RdN w (.slice au 0 cu) 0 [] := ⟨au, cu, rfl, .inl rfl⟩
    obtain ⟨v', w', e1, e2, e3⟩ := run_append_rd (P := P) w B t ty T i z (k + 1) bytes ht hi hz hsize hby hzs (Nat.succ_pos _) (.slice av L.length cv) L.length (pC f L us) hq.own (.slice au 0 cu) 0 [] hrd (by simp) (fun _ hu => by cases hu) (by simpa using h63) (by simpa using hbytes) hbase
    -- nothing is appended: the value and the world stay
    have hstay : (Builtin.append_ #[t, t] ty #[.slice av L.length cv, .slice au 0 cu]).run P w = .ok (.slice av L.length cv) w := by
      rcases hq.own.2 with ⟨hv, -⟩ | ⟨g, cap, cur, hv, _, _, hnc, _⟩
      · injection hv with hv1 hv2 hv3
        rw [hv1, hv2, hv3]
        rcases au with _ | au <;> simp [Builtin.append_, run_underlying ht, sizeOf, typeInfo, hi, Builtin.lenOf, Builtin.firstCells, loadCells, loadCellsFrom]
      · injection hv with hv1 hv2 hv3
        subst hv1 hv3
        rcases au with _ | au <;> simp [Builtin.append_, run_underlying ht, sizeOf, typeInfo, hi, Builtin.lenOf, Builtin.firstCells, hnc, storeCells, loadCells, loadCellsFrom]
    refine ⟨av, cv, w, _, by rw [List.append_nil]; exact hstay, by rw [List.append_nil]; exact h0, fun b hb => .inl hb, World.grownBy.refl _ _, hob⟩
  · have hpos : 0 < M.length := List.length_pos_iff.mpr hM
    obtain ⟨a', c', ha', hro⟩ := lowRow_rd hq2.own
    injection ha' with e1 e2 e3
    subst e1
    rcases hro with hro | ⟨b2, off, e4, hlt2, hc2⟩
    · omega
    · subst e4
      have hvl : (pC f M vs).length = M.length * (k + 1) := pC_len hf M vs
      have hone : ∀ x ∈ pC f M vs, x.oneCell' = true := pC_flat h1 (fun j hj => owC_slice (hq2.row j hj)) hq2.ulen
      obtain ⟨g, cap, w', hr, hown, hg, hat, hlt⟩ := run_append_lies (P := P) w t ty B T i z (k + 1) bytes ht hi hz hsize hby hzs (Nat.succ_pos _) (.slice av L.length cv) L.length (pC f L us) hq.own ⟨b2, off, none⟩ M.length cu (pC f M vs) hvl (fun j x hx => by
        have hj := (List.getElem?_eq_some_iff.mp hx).1
        have hadd : (⟨b2, off, none⟩ : Addr).add j = ⟨b2, off + j, none⟩ := by unfold Addr.add; split <;> simp_all
        rw [hadd, hc2 j hj]; exact (List.getElem?_eq_getElem hj ▸ hx)) hone hpos h63 hbytes hbase w.heap.size rfl
      have hnd := List.nodup_append.1 hq.nd
      have hnd2 := List.nodup_append.1 hq2.nd
      have ht : Turn w w' (ownFp (.slice av L.length cv)) := by
        unfold ownFp
        rcases hv : (Value.slice av L.length cv).ownBlock with _ | q
        · rw [hv] at hg
          exact ⟨hg.os, hg.tape, hg.output, hg.size, fun k hk _ => hg.block k hk (by simp)⟩
        · rw [hv] at hg
          exact Turn.of_grown hg
      refine ⟨some ⟨g, 0, none⟩, cap, w', g :: (fps.flatten ++ fqs.flatten), by rw [List.length_append]; exact hr, ⟨us ++ vs, fps ++ fqs, ⟨?_, by simp [hq.ulen, hq2.ulen], by simp [hq.len, hq2.len], ?_, ?_⟩, by simp [ownFp, Value.ownBlock]⟩, ?_, hg, hob⟩
      · rw [pC_append L M us vs hq.ulen, List.length_append]; exact hown
      · intro j hj
        rw [List.length_append] at hj
        rw [qD_append, uD_append, fD_append, hq.ulen, hq.len]
        by_cases hjl : j < L.length
        · rw [if_pos hjl, if_pos hjl, if_pos hjl]
          exact (hq.row j hjl).turn ht (fun b hb hb' => hnd.2.2 b hb' b (mem_fD hb) rfl)
        · rw [if_neg hjl, if_neg hjl, if_neg hjl]
          exact (hq2.row (j - L.length) (by omega)).turn ht (fun b hb hb' => hd b (List.mem_append_left _ hb') (List.mem_append_right _ (mem_fD hb)))
      · have hnew : ownFp (.slice (some ⟨g, 0, none⟩) (L ++ M).length cap) = [g] := by simp [ownFp, Value.ownBlock]
        rw [hnew, List.flatten_append]
        refine List.nodup_append.2 ⟨by simp, List.nodup_append.2 ⟨hnd.2.1, hnd2.2.1, fun x hx y hy e => ?_⟩, fun x hx y hy e => ?_⟩
        · subst e; exact hd x (List.mem_append_right _ hx) (List.mem_append_right _ hy)
        · rw [List.mem_singleton] at hx
          subst hx; subst e
          rcases hat with h3 | h3
          · have hgm : x ∈ ownFp (Value.slice av L.length cv) := by simp [ownFp, h3]
            rcases List.mem_append.1 hy with hy | hy
            · exact hnd.2.2 x hgm x hy rfl
            · exact hd x (List.mem_append_left _ hgm) (List.mem_append_right _ hy)
          · rcases List.mem_append.1 hy with hy | hy
            · have := (hrng x (List.mem_append_right _ hy)).2; omega
            · have := (hrng2 x (List.mem_append_right _ hy)).2; omega
      · intro b hb
        rcases List.mem_cons.1 hb with hb | hb
        · subst hb
          rcases hat with h3 | h3
          · exact .inl (hob b h3)
          · exact .inr (.inr (by omega))
        · rcases List.mem_append.1 hb with hb | hb
          · exact .inl (List.mem_append_right _ hb)
          · exact .inr (.inl (List.mem_append_right _ hb))
theorem wp_append_join {P : Program} {o : Oper} {a : Act} {K : Act → World → Prop} {Q : Exit → Act → World → Prop} (s x : Operand) (t : TypeId)
    (ho : o.op = .call { callee := .builtin .append, args := #[s, x], argTypes := #[t, t] })
    (B : Nat) (T : TypeId) (k : Nat) (f : α → List Value) (i : TypeInfo) (z : Value) (bytes : Nat) (ht : P.underlying t = some (.slice T)) (hi : P.info? T = some i) (hz : i.zero = some z)
    (hsize : i.size = k + 1) (hby : i.bytes = bytes) (hzs : z.cells.size = k + 1) (hf : ∀ a, (f a).length = k) (h1 : ∀ a, ∀ u ∈ f a, u.oneCell' = true)
    (v u : Value) (L M : List (α × List Int)) (fp fq : List Nat) (hs : a.eval s = v) (hx : a.eval x = u) (h : OwP f w B T k v L fp) (h2 : OwZ f w B k u M fq) (hd : ∀ b ∈ fp, b ∉ fq)
    (h63 : L.length + M.length ≤ maxLen) (hbytes : (L.length + M.length) * bytes ≤ 140737488355328) (hbase : B ≤ w.heap.size)
    (hk : ∀ a' c w' fp', OwP f w' B T k (.slice a' (L ++ M).length c) (L ++ M) fp' → (∀ b ∈ fp', b ∈ fp ∨ b ∈ fq ∨ w.heap.size ≤ b) → w.grownBy w' v.ownBlock → (∀ q, v.ownBlock = some q → q ∈ fp) → K (a.put o.dst (.slice a' (L ++ M).length c)) w') : o.wp P a w K Q := by
  obtain ⟨a', c, w', fp', hr, h3, h4, h5, h6⟩ := run_append_join (P := P) t o.type i z bytes ht hi hz hsize hby hzs hf h1 h h2 hd h63 hbytes hbase
  unfold Oper.wp execOp
  simp only [ho, resolve, invoke, builtin, Sem.run_bind, Sem.run_pure, Result.andThen_ok, List.map_toArray, List.map_cons, List.map_nil, hs, hx, hr]
  exact hk a' c w' fp' h3 h4 h5 h6
theorem wpList_append_join {P : Program} {ops : Array Oper} {rest : List Oper} {o : Oper} {a : Act} {Q : Exit → Act → World → Prop} (hgd : o.guard = none) (s x : Operand) (t : TypeId)
    (ho : o.op = .call { callee := .builtin .append, args := #[s, x], argTypes := #[t, t] })
    (B : Nat) (T : TypeId) (k : Nat) (f : α → List Value) (i : TypeInfo) (z : Value) (bytes : Nat) (ht : P.underlying t = some (.slice T)) (hi : P.info? T = some i) (hz : i.zero = some z)
    (hsize : i.size = k + 1) (hby : i.bytes = bytes) (hzs : z.cells.size = k + 1) (hf : ∀ a, (f a).length = k) (h1 : ∀ a, ∀ u ∈ f a, u.oneCell' = true)
    (v u : Value) (L M : List (α × List Int)) (fp fq : List Nat) (hs : a.eval s = v) (hx : a.eval x = u) (h : OwP f w B T k v L fp) (h2 : OwZ f w B k u M fq) (hd : ∀ b ∈ fp, b ∉ fq)
    (h63 : L.length + M.length ≤ maxLen) (hbytes : (L.length + M.length) * bytes ≤ 140737488355328) (hbase : B ≤ w.heap.size)
    (hk : ∀ a' c w' fp', OwP f w' B T k (.slice a' (L ++ M).length c) (L ++ M) fp' → (∀ b ∈ fp', b ∈ fp ∨ b ∈ fq ∨ w.heap.size ≤ b) → w.grownBy w' v.ownBlock → (∀ q, v.ownBlock = some q → q ∈ fp) → wpList P ops Q rest (a.put o.dst (.slice a' (L ++ M).length c)) w') : wpList P ops Q (o :: rest) a w :=
  wpList_plain hgd fun _ hK => wp_append_join s x t ho B T k f i z bytes ht hi hz hsize hby hzs hf h1 v u L M fp fq hs hx h h2 hd h63 hbytes hbase fun a' c w' fp' e1 e2 e3 e4 => hK _ _ (hk a' c w' fp' e1 e2 e3 e4)
theorem step_append_join {P : Program} {ops : Array Oper} {o : Oper} {a : Act} {K : Act → World → Prop} {Q : Exit → Act → World → Prop} {E : Prop} (hgd : o.guard = none) (s x : Operand) (t : TypeId)
    (ho : o.op = .call { callee := .builtin .append, args := #[s, x], argTypes := #[t, t] })
    (B : Nat) (T : TypeId) (k : Nat) (f : α → List Value) (i : TypeInfo) (z : Value) (bytes : Nat) (ht : P.underlying t = some (.slice T)) (hi : P.info? T = some i) (hz : i.zero = some z)
    (hsize : i.size = k + 1) (hby : i.bytes = bytes) (hzs : z.cells.size = k + 1) (hf : ∀ a, (f a).length = k) (h1 : ∀ a, ∀ u ∈ f a, u.oneCell' = true)
    (v u : Value) (L M : List (α × List Int)) (fp fq : List Nat) (hs : a.eval s = v) (hx : a.eval x = u) (h : OwP f w B T k v L fp) (h2 : OwZ f w B k u M fq) (hd : ∀ b ∈ fp, b ∉ fq)
    (h63 : L.length + M.length ≤ maxLen) (hbytes : (L.length + M.length) * bytes ≤ 140737488355328) (hbase : B ≤ w.heap.size)
    (hk : ∀ a' c w' fp', OwP f w' B T k (.slice a' (L ++ M).length c) (L ++ M) fp' → (∀ b ∈ fp', b ∈ fp ∨ b ∈ fq ∨ w.heap.size ≤ b) → w.grownBy w' v.ownBlock → (∀ q, v.ownBlock = some q → q ∈ fp) → K (a.put o.dst (.slice a' (L ++ M).length c)) w') :
    if Region.wanted o (yielded ops a.tmps) = true then Oper.wp P o a w K Q else E := by
  have hw : Region.wanted o (yielded ops a.tmps) = true := by simp [Region.wanted, hgd]
  rw [if_pos hw]
  exact wp_append_join s x t ho B T k f i z bytes ht hi hz hsize hby hzs hf h1 v u L M fp fq hs hx h h2 hd h63 hbytes hbase hk
end

end Go.Proofs.Yteljmfdlegohbaa
