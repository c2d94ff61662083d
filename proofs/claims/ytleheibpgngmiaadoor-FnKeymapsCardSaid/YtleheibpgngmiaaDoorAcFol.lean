/- DERIVED. FnActions, where the tables are as their texts lay them: every drawn action is read from its text and from its bytes, and what is tapped or held of it can be neither again. The program's PackAction and UnpackAction as premises. -/
import Derived.Test.YtleheibpgngmiaaDoorAcMath
import Derived.Test.YtleheibpgngmiaaDoorAcTap
import Derived.Test.YtleheibpgngmiaaDoorAcDraw
import Derived.Test.YtleheibpgngmiaaDoorDraw
import Derived.Test.YtleheibpgngmiaaDoorKmSpec
import Derived.Test.YtleheibpgngmiaaDoorLawBits
import Derived.Laws.StructEq
namespace Go.Proofs.YtleheibpgngmiaaDoor
open Go.RowKit

theorem packV_len3 (a : Ac) : (packV a).length ≤ 3 := by unfold packV; split <;> simp
theorem unpack_pack {a : Ac} (h : okAc a.k a.c a.m a.n = true) : unpackV (packV a) = (a, true) := by
  obtain ⟨k, c, m, n⟩ := a
  have hl := okAc_lim h
  simp only at h hl
  have e1 : (16 * k + n) / 16 = k := by omega
  have e2 : (16 * k + n) % 16 = n := by omega
  have hp : packV ⟨k, c, m, n⟩ = [16 * k + n, c, m] := by rw [packV, if_pos h]
  rw [hp]
  unfold unpackV
  simp only [List.length_cons, List.length_nil, List.getD_cons_zero, List.getD_cons_succ, e1, e2, if_pos h]
  rfl
theorem pack_bytes {a : Ac} (h : okAc a.k a.c a.m a.n = true) : ∀ z ∈ packV a, 0 ≤ z ∧ z < 256 := by
  have hl := okAc_lim h
  intro z hz
  rw [packV, if_pos h] at hz
  simp at hz
  omega
theorem acS_size2 (k c m n : Int) : (acS k c m n).size ≤ 1048576 := by
  unfold acS
  split
  · rename_i h
    obtain ⟨⟨k0, k1⟩, -, -, n0, n3⟩ := okAc_lim h
    have h1 := mdV_size m
    have h2 := nmV_size c
    have h3 : (itoaText n).size = 1 := by rw [itoa_few n0 n3]; rfl
    have e1 : (⟨#[110, 111, 110, 101]⟩ : ByteArray).size = 4 := rfl
    have e2 : (⟨#[112, 97, 115, 115]⟩ : ByteArray).size = 4 := rfl
    have e3 : (⟨#[109, 111, 58]⟩ : ByteArray).size = 3 := rfl
    have e4 : (⟨#[116, 103, 58]⟩ : ByteArray).size = 3 := rfl
    have e5 : (⟨#[116, 111, 58]⟩ : ByteArray).size = 3 := rfl
    have e6 : (⟨#[47]⟩ : ByteArray).size = 1 := rfl
    have e7 : (⟨#[111, 110, 99, 101, 58]⟩ : ByteArray).size = 5 := rfl
    have e8 : (⟨#[109, 97, 99, 114, 111, 58]⟩ : ByteArray).size = 6 := rfl
    have e9 : (⟨#[99, 97, 112, 115]⟩ : ByteArray).size = 4 := rfl
    have e10 : (⟨#[45]⟩ : ByteArray).size = 1 := rfl
    have two : ∀ (a b : ByteArray) (n : Nat), a.size + b.size ≤ n → (a ++ b).size ≤ n := fun a b n hh => by rw [ByteArray.size_append]; exact hh
    have three : ∀ (a b c : ByteArray) (n : Nat), a.size + b.size + c.size ≤ n → (a ++ b ++ c).size ≤ n := fun a b c n hh => by rw [ByteArray.size_append, ByteArray.size_append]; exact hh
    have hk : k = 0 ∨ k = 1 ∨ k = 2 ∨ k = 3 ∨ k = 4 ∨ k = 5 ∨ k = 6 ∨ k = 7 ∨ k = 8 ∨ k = 9 ∨ k = 10 := by omega
    clear k0 k1 h n0 n3
    rcases hk with rfl | rfl | rfl | rfl | rfl | rfl | rfl | rfl | rfl | rfl | rfl
    · have e : acT 0 c m n = ⟨#[110, 111, 110, 101]⟩ := rfl
      rw [e]; omega
    · have e : acT 1 c m n = ⟨#[112, 97, 115, 115]⟩ := rfl
      rw [e]; omega
    · by_cases hm : m = 0
      · have e : acT 2 c m n = nmV c := if_pos hm
        rw [e]; omega
      · have e : acT 2 c m n = mdV m ++ ⟨#[45]⟩ ++ nmV c := if_neg hm
        rw [e]; exact three _ _ _ _ (by omega)
    · have e : acT 3 c m n = ⟨#[109, 111, 58]⟩ ++ itoaText n := rfl
      rw [e]; exact two _ _ _ (by omega)
    · have e : acT 4 c m n = ⟨#[116, 103, 58]⟩ ++ itoaText n := rfl
      rw [e]; exact two _ _ _ (by omega)
    · have e : acT 5 c m n = ⟨#[116, 111, 58]⟩ ++ itoaText n := rfl
      rw [e]; exact two _ _ _ (by omega)
    · have e : acT 6 c m n = mdV m ++ ⟨#[47]⟩ ++ nmV c := rfl
      rw [e]; exact three _ _ _ _ (by omega)
    · have e : acT 7 c m n = itoaText n ++ ⟨#[47]⟩ ++ nmV c := rfl
      rw [e]; exact three _ _ _ _ (by omega)
    · have e : acT 8 c m n = ⟨#[111, 110, 99, 101, 58]⟩ ++ mdV m := rfl
      rw [e]; exact two _ _ _ (by omega)
    · have e : acT 9 c m n = ⟨#[109, 97, 99, 114, 111, 58]⟩ ++ itoaText n := rfl
      rw [e]; exact two _ _ _ (by omega)
    · have e : acT 10 c m n = ⟨#[99, 97, 112, 115]⟩ := rfl
      rw [e]; omega
  · exact Nat.zero_le _
theorem code_back0 {c : Int} (h0 : 0 ≤ c) (h1 : c ≤ 56) : codeV (nmV c) = c.toNat := by
  have := List.all_eq_true.1 code_back c.toNat (by rw [List.mem_range]; omega)
  have h2 := of_decide_eq_true this
  rwa [Int.toNat_of_nonneg h0] at h2
theorem mods_back0 {m : Int} (h0 : 0 ≤ m) (h1 : m ≤ 15) : pmV (mdV m) = m.toNat := by
  have := List.all_eq_true.1 mods_back m.toNat (by rw [List.mem_range]; omega)
  have h2 := of_decide_eq_true this
  rwa [Int.toNat_of_nonneg h0] at h2
theorem implTapOf_r (k c m n k' c' m' n' : Int) (h : tapR ⟨k, c, m, n⟩ = ⟨k', c', m', n'⟩) (w : World) : Calls Tryd.prog 21 #[acv k c m n] w fun e w' => e = .returned (acv k' c' m' n') ∧ Below w.heap.size w w' := by
  have := implTapOf_any k c m n w
  rw [h] at this; exact this
theorem implHoldOf_r (k c m n k' c' m' n' : Int) (h : holdR ⟨k, c, m, n⟩ = ⟨k', c', m', n'⟩) (w : World) : Calls Tryd.prog 22 #[acv k c m n] w fun e w' => e = .returned (acv k' c' m' n') ∧ Below w.heap.size w w' := by
  have := implHoldOf_any k c m n w
  rw [h] at this; exact this
theorem implCodeName_f (c : Int) (N : ByteArray) (hN : N = nmV c) (w : World) (ht : AcTabs w) : Calls Tryd.prog 26 #[.int .i64 c] w fun e w' => e = .returned (.string N) ∧ Below w.heap.size w w' := by
  rw [hN]; exact (implCodeName_any c w ht.nm).mono fun e w' h => ⟨h.1, by rw [← h.2]; exact Below.refl _ _⟩
theorem implFormatMods_f (m : Int) (N : ByteArray) (hN : N = mdV m) (w : World) : Calls Tryd.prog 28 #[.int .i64 m] w fun e w' => e = .returned (.string N) ∧ Below w.heap.size w w' := by
  rw [hN]; exact implFormatMods_any m w
theorem implParseAction_n (s : ByteArray) (z : Ac) (b : Bool) (hz : (z, b) = acP s) (w : World) (ht : AcTabs w) (hl : s.size ≤ 1048576) : Calls Tryd.prog 17 #[.string s] w fun e w' => e = .returned (.tuple #[acv z.k z.c z.m z.n, .bool b]) ∧ Below w.heap.size w w' := by
  have := implParseAction_any s w ht hl
  rw [← hz] at this; exact this
theorem hP_n {w : World} {a : Ac} {zs : List Int} (hP : ∀ (a : Ac) (w' : World), Below w.heap.size w w' → Calls Tryd.prog 20 #[acv a.k a.c a.m a.n] w' (ByOut (packV a) w')) (hz : zs = packV a) (w' : World) (hb : Below w.heap.size w w') : Calls Tryd.prog 20 #[acv a.k a.c a.m a.n] w' (ByOut zs w') := by
  rw [hz]; exact hP a w' hb

theorem MakeAction_draw (v : Value) (zs : List Int) (w : World) (hl : zs.length ≤ 1099511627776) (hz : ∀ z ∈ zs, 0 ≤ z ∧ z < 256) (h : Rd w v (zs.map (.int .u8))) :
    Calls Tryd.prog 16 #[v] w fun e w' => ∃ a : Ac, e = .returned (acv a.k a.c a.m a.n) ∧ AcFit a 4 ∧ Below w.heap.size w w' := by
  have HZ := Lib.hid hz
  have HL := Lib.hid hl
  have HR := Lib.hid h
  clear hz hl h
  obtain ⟨V, hV⟩ : ∃ V, V = w.alloc (.cells #[.int .i64 0, .int .i64 0, .int .i64 0, .int .i64 0] 37) := ⟨_, rfl⟩
  have HG0 := Lib.hid (show V.heap[w.heap.size]? = some (.cells #[.int .i64 0, .int .i64 0, .int .i64 0, .int .i64 0] 37 (0, 0)) by rw [hV]; exact heap_alloc_new w _)
  have HB0 := Lib.hid (show Below w.heap.size w V by rw [hV]; exact (Below.refl _ _).alloc (Nat.le_refl _) _)
  have HS0 := Lib.hid (show w.heap.size < V.heap.size by rw [hV]; simp)
  have HV2 := Lib.hid hV
  clear hV
  go_enter Tryd.func16, Tryd.ntmps16
  go_wp2_with fail
  rw [← HV2.out]
  refine (l24New_draw v zs 3 _ HL.out HZ.out (HR.out.below HB0.out)).mono ?_
  rintro e w1 ⟨rfl, hd, hb, hlt⟩
  have HD := Lib.hid hd
  have HB1 := Lib.hid (HB0.out.trans (hb.mono HB0.out.size))
  have HG1 := Lib.hid ((hb.block _ HS0.out).trans HG0.out)
  have HS1 := Lib.hid (Nat.lt_of_lt_of_le HS0.out hb.size)
  have HVl := Lib.hid hb.size
  clear hd hb hlt
  go_wp2_with fail
  refine (l5Draw_draw 4 HD.out (by omega) (by omega)).mono ?_
  rintro e w2 ⟨⟨k, c, m, n⟩, rfl, hfit, hd, hg⟩
  have hb := low_of_grown (B := V.heap.size) hg (Nat.le_refl _) HVl.out
  have HB2 := Lib.hid (HB1.out.trans (hb.mono HB0.out.size))
  have HG2 := Lib.hid ((hb.block _ HS0.out).trans HG1.out)
  have HF := Lib.hid hfit
  clear hd hg hb hfit
  simp only
  obtain ⟨y0, q0⟩ := cells_of_heap HG2.out 0 (by simp)
  obtain ⟨y1, q1⟩ := cells_of_heap HG2.out 1 (by simp)
  obtain ⟨y2, q2⟩ := cells_of_heap HG2.out 2 (by simp)
  obtain ⟨y3, q3⟩ := cells_of_heap HG2.out 3 (by simp)
  go_wp2
  clear y0 q0 y1 q1 y2 q2 y3 q3
  obtain ⟨wf, hwf⟩ : ∃ wz, wz = putW (w2) (w.heap.size) 0 [.int .i64 k, .int .i64 c, .int .i64 m, .int .i64 n] := ⟨_, rfl⟩
  have kf := putW_all [.int .i64 k, .int .i64 c, .int .i64 m, .int .i64 n] HG2.out rfl
  have bf := putW_below (b := w.heap.size) (by first | omega | simp) [.int .i64 k, .int .i64 c, .int .i64 m, .int .i64 n] 0 _ HB2.out
  rw [← hwf] at kf bf
  have cf := hwf.symm
  simp only [putW, Nat.reduceAdd] at cf
  rw [cf]
  clear cf hwf
  have f0 := (cells_of_heap kf 0 (by simp)).1
  have f1 := (cells_of_heap kf 1 (by simp)).1
  have f2 := (cells_of_heap kf 2 (by simp)).1
  have f3 := (cells_of_heap kf 3 (by simp)).1
  simp only [List.getElem_toArray, List.getElem_cons_zero, List.getElem_cons_succ] at f0 f1 f2 f3
  refine bodyPost_ret (v := acv k c m n) (by simp [results, Tryd.results16, go_sem, f0, f1, f2, f3]) rfl ⟨⟨k, c, m, n⟩, rfl, HF.out, bf⟩
set_option maxHeartbeats 8000000 in
set_option maxRecDepth 100000 in
theorem lawActions_walk (a0 : Option Addr) (len cap0 : Nat) (bs : List Int) (w : World) (hlen : bs.length = len) (hz : ∀ z ∈ bs, (Lit.int .u8 z).wf = true) (h : Rd w (.slice a0 len cap0) (bs.map (.int .u8))) (ht : AcTabs w)
    (hP : ∀ (a : Ac) (w' : World), Below w.heap.size w w' → Calls Tryd.prog 20 #[acv a.k a.c a.m a.n] w' (ByOut (packV a) w'))
    (hU : ∀ (u : Value) (zs : List Int) (z : Ac) (b : Bool) (w' : World), (z, b) = unpackV zs → Below w.heap.size w w' → zs.length ≤ maxLen → (∀ z ∈ zs, 0 ≤ z ∧ z < 256) → Rd w' u (zs.map (.int .u8)) → Calls Tryd.prog 19 #[u] w' fun e w'' => e = .returned (.tuple #[acv z.k z.c z.m z.n, .bool b]) ∧ Below w'.heap.size w' w'') : Calls Tryd.prog 4 #[.slice a0 len cap0] w fun e w' => e = .returned (.bool true) ∧ Below w.heap.size w w' := by
  by_cases hbig : (1048576 : Int) < len
  · go_enter Tryd.func4, Tryd.ntmps4
    go_wp2_with fail
    refine (big_any a0 len cap0 _).mono ?_
    rw [decide_eq_true hbig]
    rintro e w0 ⟨rfl, rfl⟩
    go_wp2
    go_ret
    exact ⟨rfl, Below.refl _ _⟩
  · have HZ := Lib.hid (fun z (m : z ∈ bs) => wf_byte (hz z m))
    have HL := Lib.hid (show bs.length ≤ 1099511627776 by omega)
    have HR := Lib.hid h
    have HBG := Lib.hid (decide_eq_false hbig)
    have HTB := Lib.hid ht
    have HP := Lib.hid hP
    have HU := Lib.hid hU
    clear hz hlen h hbig ht hP hU
    have HB0 := Lib.hid (Below.refl w.heap.size w)
    go_enter Tryd.func4, Tryd.ntmps4
    go_wp2_with fail
    refine (big_any a0 len cap0 _).mono ?_
    rw [HBG.out]
    rintro e v0 ⟨rfl, rfl⟩
    go_wp2_with fail
    refine (MakeAction_draw _ bs _ HL.out HZ.out HR.out).mono ?_
    rintro e w1 ⟨⟨k, c, m, n⟩, rfl, hfit, hb⟩
    have HB1 := Lib.hid (HB0.out.trans (hb.mono HB0.out.size))
    have HS1 := Lib.hid hb.size
    clear hb
    simp only
    have HFIT := Lib.hid hfit
    have HOKA := Lib.hid (show true = okAc k c m n from hfit.ok.symm)
    obtain ⟨T, hT⟩ : ∃ T, T = acS k c m n := ⟨_, rfl⟩
    have HT := Lib.hid hT
    have HPA := Lib.hid (show ((⟨k, c, m, n⟩ : Ac), true) = acP T by rw [hT]; exact (acP_acS hfit.ok).symm)
    have HTL := Lib.hid (show T.size ≤ 1048576 by rw [hT]; exact acS_size2 k c m n)
    obtain ⟨zs, hzs⟩ : ∃ zs, zs = packV ⟨k, c, m, n⟩ := ⟨_, rfl⟩
    have HZS := Lib.hid hzs
    have HUP := Lib.hid (show ((⟨k, c, m, n⟩ : Ac), true) = unpackV zs by rw [hzs]; exact (unpack_pack (a := ⟨k, c, m, n⟩) hfit.ok).symm)
    have HZL := Lib.hid (show zs.length ≤ maxLen by rw [hzs]; have := packV_len3 ⟨k, c, m, n⟩; unfold maxLen; omega)
    have HZB := Lib.hid (show ∀ z ∈ zs, 0 ≤ z ∧ z < 256 by rw [hzs]; exact pack_bytes (a := ⟨k, c, m, n⟩) hfit.ok)
    have hlm := okAc_lim hfit.ok
    simp only at hlm
    obtain ⟨CN, hCN⟩ : ∃ N, N = nmV c := ⟨_, rfl⟩
    obtain ⟨MN, hMN⟩ : ∃ N, N = mdV m := ⟨_, rfl⟩
    obtain ⟨CC, hCC⟩ : ∃ N : Nat, N = c.toNat := ⟨_, rfl⟩
    obtain ⟨MM, hMM⟩ : ∃ N : Nat, N = m.toNat := ⟨_, rfl⟩
    have HCN := Lib.hid hCN
    have HMN := Lib.hid hMN
    have HCC := Lib.hid (show CC = codeV CN by rw [hCN, hCC]; exact (code_back0 hlm.2.1.1 hlm.2.1.2).symm)
    have HMM := Lib.hid (show MM = pmV MN by rw [hMN, hMM]; exact (mods_back0 hlm.2.2.1.1 hlm.2.2.1.2).symm)
    have eCC : (CC : Int) = c := by rw [hCC]; omega
    have eMM : (MM : Int) = m := by rw [hMM]; omega
    clear hT hzs hfit hCN hMN hCC hMM hlm
    go_upto_region 4 with (fail)
    obtain ⟨w2, hw⟩ : ∃ x, x = w1.alloc (.cells #[.int .i64 k, .int .i64 c, .int .i64 m, .int .i64 n] 37) := ⟨_, rfl⟩
    have hb : Below w1.heap.size w1 w2 := by rw [hw]; exact below_alloc1 _ _
    have hk : w2.heap[w1.heap.size]? = some (.cells #[.int .i64 k, .int .i64 c, .int .i64 m, .int .i64 n] 37 (0, 0)) := by rw [hw]; exact heap_alloc_new _ _
    rw [← hw]
    have HB2 := Lib.hid (HB1.out.trans (hb.mono HB1.out.size))
    have HS2 := Lib.hid (show w1.heap.size < w2.heap.size from (Array.getElem?_eq_some_iff.mp hk).1)
    have Ka_2 := Lib.hid hk
    clear hb hk hw
    have ca0 := (cells_of_heap Ka_2.out 0 (by simp)).1
    have ca1 := (cells_of_heap Ka_2.out 1 (by simp)).1
    have ca2 := (cells_of_heap Ka_2.out 2 (by simp)).1
    have ca3 := (cells_of_heap Ka_2.out 3 (by simp)).1
    go_wp2_with fail
    refine (implFormatAction_n k c m n T HT.out _ (HTB.out.below HB2.out)).mono ?_
    rintro e w3 ⟨rfl, hb⟩
    clear ca0 ca1 ca2 ca3
    have HB3 := Lib.hid (HB2.out.trans (hb.mono HB2.out.size))
    have HS3 := Lib.hid hb.size
    have Ka_3 := Lib.hid (blk_below Ka_2.out hb)
    clear Ka_2
    clear hb
    go_wp2_with fail
    refine (implParseAction_n T ⟨k, c, m, n⟩ true HPA.out _ (HTB.out.below HB3.out) HTL.out).mono ?_
    rintro e w4 ⟨rfl, hb⟩
    have HB4 := Lib.hid (HB3.out.trans (hb.mono HB3.out.size))
    have HS4 := Lib.hid hb.size
    have Ka_4 := Lib.hid (blk_below Ka_3.out hb)
    clear Ka_3
    clear hb
    go_upto_region 5 with (fail)
    obtain ⟨w5, hw⟩ : ∃ x, x = w4.alloc (.cells #[.int .i64 k, .int .i64 c, .int .i64 m, .int .i64 n] 37) := ⟨_, rfl⟩
    have hb : Below w4.heap.size w4 w5 := by rw [hw]; exact below_alloc1 _ _
    have hk : w5.heap[w4.heap.size]? = some (.cells #[.int .i64 k, .int .i64 c, .int .i64 m, .int .i64 n] 37 (0, 0)) := by rw [hw]; exact heap_alloc_new _ _
    rw [← hw]
    have HB5 := Lib.hid (HB4.out.trans (hb.mono HB4.out.size))
    have HS5 := Lib.hid (show w4.heap.size < w5.heap.size from (Array.getElem?_eq_some_iff.mp hk).1)
    have Ka_5 := Lib.hid (blk_below Ka_4.out hb)
    clear Ka_4
    have Kx_5 := Lib.hid hk
    clear hb hk hw
    have ca0 := (cells_of_heap Ka_5.out 0 (by simp)).1
    have ca1 := (cells_of_heap Ka_5.out 1 (by simp)).1
    have ca2 := (cells_of_heap Ka_5.out 2 (by simp)).1
    have ca3 := (cells_of_heap Ka_5.out 3 (by simp)).1
    go_wp2_with fail
    refine (hP_n HP.out HZS.out _ HB5.out).mono ?_
    rintro e w6 ⟨pa, pc, pf, rfl, hbo, hb⟩
    clear ca0 ca1 ca2 ca3
    have HB6 := Lib.hid (HB5.out.trans (hb.mono HB5.out.size))
    have HS6 := Lib.hid hb.size
    have Ka_6 := Lib.hid (blk_below Ka_5.out hb)
    have Kx_6 := Lib.hid (blk_below Kx_5.out hb)
    clear Ka_5 Kx_5
    clear hb
    have HBO := Lib.hid hbo.rd1
    clear hbo
    go_wp2_with fail
    refine (HU.out _ zs ⟨k, c, m, n⟩ true _ HUP.out HB6.out HZL.out HZB.out HBO.out).mono ?_
    rintro e w7 ⟨rfl, hb⟩
    have HB7 := Lib.hid (HB6.out.trans (hb.mono HB6.out.size))
    have HS7 := Lib.hid hb.size
    have Ka_7 := Lib.hid (blk_below Ka_6.out hb)
    have Kx_7 := Lib.hid (blk_below Kx_6.out hb)
    clear Ka_6 Kx_6
    clear hb
    go_upto_region 6 with (fail)
    obtain ⟨w8, hw⟩ : ∃ x, x = w7.alloc (.cells #[.int .i64 k, .int .i64 c, .int .i64 m, .int .i64 n] 37) := ⟨_, rfl⟩
    have hb : Below w7.heap.size w7 w8 := by rw [hw]; exact below_alloc1 _ _
    have hk : w8.heap[w7.heap.size]? = some (.cells #[.int .i64 k, .int .i64 c, .int .i64 m, .int .i64 n] 37 (0, 0)) := by rw [hw]; exact heap_alloc_new _ _
    rw [← hw]
    have HB8 := Lib.hid (HB7.out.trans (hb.mono HB7.out.size))
    have HS8 := Lib.hid (show w7.heap.size < w8.heap.size from (Array.getElem?_eq_some_iff.mp hk).1)
    have Ka_8 := Lib.hid (blk_below Ka_7.out hb)
    have Kx_8 := Lib.hid (blk_below Kx_7.out hb)
    clear Ka_7 Kx_7
    have Ky_8 := Lib.hid hk
    clear hb hk hw
    obtain ⟨v, hv⟩ : ∃ v, v = holdAc k c m n := ⟨_, rfl⟩
    cases v
    · skip
      have HTA := Lib.hid hv
      have HTP := Lib.hid (show tapR ⟨k, c, m, n⟩ = ⟨k, c, m, n⟩ by rw [tapR, ← hv]; rfl)
      have HHP := Lib.hid (show holdR ⟨k, c, m, n⟩ = ⟨k, c, m, n⟩ by rw [holdR, ← hv]; rfl)
      have HOKT := HOKA
      have HOKH := HOKA
      have HTT := HTA
      have HTH := HTA
      clear hv
      have ca0 := (cells_of_heap Ka_8.out 0 (by simp)).1
      have ca1 := (cells_of_heap Ka_8.out 1 (by simp)).1
      have ca2 := (cells_of_heap Ka_8.out 2 (by simp)).1
      have ca3 := (cells_of_heap Ka_8.out 3 (by simp)).1
      go_wp2_with fail
      refine (implTapOf_r k c m n k c m n HTP.out _).mono ?_
      rintro e w9 ⟨rfl, hb⟩
      clear ca0 ca1 ca2 ca3
      have HB9 := Lib.hid (HB8.out.trans (hb.mono HB8.out.size))
      have HS9 := Lib.hid hb.size
      have Ka_9 := Lib.hid (blk_below Ka_8.out hb)
      have Kx_9 := Lib.hid (blk_below Kx_8.out hb)
      have Ky_9 := Lib.hid (blk_below Ky_8.out hb)
      clear Ka_8 Kx_8 Ky_8
      clear hb
      go_upto_region 7 with (fail)
      obtain ⟨w10, hw⟩ : ∃ x, x = w9.alloc (.cells #[.int .i64 k, .int .i64 c, .int .i64 m, .int .i64 n] 37) := ⟨_, rfl⟩
      have hb : Below w9.heap.size w9 w10 := by rw [hw]; exact below_alloc1 _ _
      have hk : w10.heap[w9.heap.size]? = some (.cells #[.int .i64 k, .int .i64 c, .int .i64 m, .int .i64 n] 37 (0, 0)) := by rw [hw]; exact heap_alloc_new _ _
      rw [← hw]
      have HB10 := Lib.hid (HB9.out.trans (hb.mono HB9.out.size))
      have HS10 := Lib.hid (show w9.heap.size < w10.heap.size from (Array.getElem?_eq_some_iff.mp hk).1)
      have Ka_10 := Lib.hid (blk_below Ka_9.out hb)
      have Kx_10 := Lib.hid (blk_below Kx_9.out hb)
      have Ky_10 := Lib.hid (blk_below Ky_9.out hb)
      clear Ka_9 Kx_9 Ky_9
      have Kt_10 := Lib.hid hk
      clear hb hk hw
      have ca0 := (cells_of_heap Ka_10.out 0 (by simp)).1
      have ca1 := (cells_of_heap Ka_10.out 1 (by simp)).1
      have ca2 := (cells_of_heap Ka_10.out 2 (by simp)).1
      have ca3 := (cells_of_heap Ka_10.out 3 (by simp)).1
      go_wp2_with fail
      refine (implHoldOf_r k c m n k c m n HHP.out _).mono ?_
      rintro e w11 ⟨rfl, hb⟩
      clear ca0 ca1 ca2 ca3
      have HB11 := Lib.hid (HB10.out.trans (hb.mono HB10.out.size))
      have HS11 := Lib.hid hb.size
      have Ka_11 := Lib.hid (blk_below Ka_10.out hb)
      have Kx_11 := Lib.hid (blk_below Kx_10.out hb)
      have Ky_11 := Lib.hid (blk_below Ky_10.out hb)
      have Kt_11 := Lib.hid (blk_below Kt_10.out hb)
      clear Ka_10 Kx_10 Ky_10 Kt_10
      clear hb
      go_upto_region 8 with (fail)
      obtain ⟨w12, hw⟩ : ∃ x, x = w11.alloc (.cells #[.int .i64 k, .int .i64 c, .int .i64 m, .int .i64 n] 37) := ⟨_, rfl⟩
      have hb : Below w11.heap.size w11 w12 := by rw [hw]; exact below_alloc1 _ _
      have hk : w12.heap[w11.heap.size]? = some (.cells #[.int .i64 k, .int .i64 c, .int .i64 m, .int .i64 n] 37 (0, 0)) := by rw [hw]; exact heap_alloc_new _ _
      rw [← hw]
      have HB12 := Lib.hid (HB11.out.trans (hb.mono HB11.out.size))
      have HS12 := Lib.hid (show w11.heap.size < w12.heap.size from (Array.getElem?_eq_some_iff.mp hk).1)
      have Ka_12 := Lib.hid (blk_below Ka_11.out hb)
      have Kx_12 := Lib.hid (blk_below Kx_11.out hb)
      have Ky_12 := Lib.hid (blk_below Ky_11.out hb)
      have Kt_12 := Lib.hid (blk_below Kt_11.out hb)
      clear Ka_11 Kx_11 Ky_11 Kt_11
      have Kh_12 := Lib.hid hk
      clear hb hk hw
      have ca0 := (cells_of_heap Ka_12.out 0 (by simp)).1
      have ca1 := (cells_of_heap Ka_12.out 1 (by simp)).1
      have ca2 := (cells_of_heap Ka_12.out 2 (by simp)).1
      have ca3 := (cells_of_heap Ka_12.out 3 (by simp)).1
      have cx0 := (cells_of_heap Kx_12.out 0 (by simp)).1
      have cx1 := (cells_of_heap Kx_12.out 1 (by simp)).1
      have cx2 := (cells_of_heap Kx_12.out 2 (by simp)).1
      have cx3 := (cells_of_heap Kx_12.out 3 (by simp)).1
      have cy0 := (cells_of_heap Ky_12.out 0 (by simp)).1
      have cy1 := (cells_of_heap Ky_12.out 1 (by simp)).1
      have cy2 := (cells_of_heap Ky_12.out 2 (by simp)).1
      have cy3 := (cells_of_heap Ky_12.out 3 (by simp)).1
      have ct0 := (cells_of_heap Kt_12.out 0 (by simp)).1
      have ct1 := (cells_of_heap Kt_12.out 1 (by simp)).1
      have ct2 := (cells_of_heap Kt_12.out 2 (by simp)).1
      have ct3 := (cells_of_heap Kt_12.out 3 (by simp)).1
      have ch0 := (cells_of_heap Kh_12.out 0 (by simp)).1
      have ch1 := (cells_of_heap Kh_12.out 1 (by simp)).1
      have ch2 := (cells_of_heap Kh_12.out 2 (by simp)).1
      have ch3 := (cells_of_heap Kh_12.out 3 (by simp)).1
      go_wp2_with fail
      refine (implIsAction_q k c m n true HOKA.out _).mono ?_
      rintro e w13 ⟨rfl, hb⟩
      clear ca0 ca1 ca2 ca3 cx0 cx1 cx2 cx3 cy0 cy1 cy2 cy3 ct0 ct1 ct2 ct3 ch0 ch1 ch2 ch3
      have HB13 := Lib.hid (HB12.out.trans (hb.mono HB12.out.size))
      have HS13 := Lib.hid hb.size
      have Ka_13 := Lib.hid (blk_below Ka_12.out hb)
      have Kx_13 := Lib.hid (blk_below Kx_12.out hb)
      have Ky_13 := Lib.hid (blk_below Ky_12.out hb)
      have Kt_13 := Lib.hid (blk_below Kt_12.out hb)
      have Kh_13 := Lib.hid (blk_below Kh_12.out hb)
      clear Ka_12 Kx_12 Ky_12 Kt_12 Kh_12
      clear hb
      have ca0 := (cells_of_heap Ka_13.out 0 (by simp)).1
      have ca1 := (cells_of_heap Ka_13.out 1 (by simp)).1
      have ca2 := (cells_of_heap Ka_13.out 2 (by simp)).1
      have ca3 := (cells_of_heap Ka_13.out 3 (by simp)).1
      have cx0 := (cells_of_heap Kx_13.out 0 (by simp)).1
      have cx1 := (cells_of_heap Kx_13.out 1 (by simp)).1
      have cx2 := (cells_of_heap Kx_13.out 2 (by simp)).1
      have cx3 := (cells_of_heap Kx_13.out 3 (by simp)).1
      have cy0 := (cells_of_heap Ky_13.out 0 (by simp)).1
      have cy1 := (cells_of_heap Ky_13.out 1 (by simp)).1
      have cy2 := (cells_of_heap Ky_13.out 2 (by simp)).1
      have cy3 := (cells_of_heap Ky_13.out 3 (by simp)).1
      have ct0 := (cells_of_heap Kt_13.out 0 (by simp)).1
      have ct1 := (cells_of_heap Kt_13.out 1 (by simp)).1
      have ct2 := (cells_of_heap Kt_13.out 2 (by simp)).1
      have ct3 := (cells_of_heap Kt_13.out 3 (by simp)).1
      have ch0 := (cells_of_heap Kh_13.out 0 (by simp)).1
      have ch1 := (cells_of_heap Kh_13.out 1 (by simp)).1
      have ch2 := (cells_of_heap Kh_13.out 2 (by simp)).1
      have ch3 := (cells_of_heap Kh_13.out 3 (by simp)).1
      go_wp2_with fail
      refine (implIsAction_q k c m n true HOKT.out _).mono ?_
      rintro e w14 ⟨rfl, hb⟩
      clear ca0 ca1 ca2 ca3 cx0 cx1 cx2 cx3 cy0 cy1 cy2 cy3 ct0 ct1 ct2 ct3 ch0 ch1 ch2 ch3
      have HB14 := Lib.hid (HB13.out.trans (hb.mono HB13.out.size))
      have HS14 := Lib.hid hb.size
      have Ka_14 := Lib.hid (blk_below Ka_13.out hb)
      have Kx_14 := Lib.hid (blk_below Kx_13.out hb)
      have Ky_14 := Lib.hid (blk_below Ky_13.out hb)
      have Kt_14 := Lib.hid (blk_below Kt_13.out hb)
      have Kh_14 := Lib.hid (blk_below Kh_13.out hb)
      clear Ka_13 Kx_13 Ky_13 Kt_13 Kh_13
      clear hb
      have ca0 := (cells_of_heap Ka_14.out 0 (by simp)).1
      have ca1 := (cells_of_heap Ka_14.out 1 (by simp)).1
      have ca2 := (cells_of_heap Ka_14.out 2 (by simp)).1
      have ca3 := (cells_of_heap Ka_14.out 3 (by simp)).1
      have cx0 := (cells_of_heap Kx_14.out 0 (by simp)).1
      have cx1 := (cells_of_heap Kx_14.out 1 (by simp)).1
      have cx2 := (cells_of_heap Kx_14.out 2 (by simp)).1
      have cx3 := (cells_of_heap Kx_14.out 3 (by simp)).1
      have cy0 := (cells_of_heap Ky_14.out 0 (by simp)).1
      have cy1 := (cells_of_heap Ky_14.out 1 (by simp)).1
      have cy2 := (cells_of_heap Ky_14.out 2 (by simp)).1
      have cy3 := (cells_of_heap Ky_14.out 3 (by simp)).1
      have ct0 := (cells_of_heap Kt_14.out 0 (by simp)).1
      have ct1 := (cells_of_heap Kt_14.out 1 (by simp)).1
      have ct2 := (cells_of_heap Kt_14.out 2 (by simp)).1
      have ct3 := (cells_of_heap Kt_14.out 3 (by simp)).1
      have ch0 := (cells_of_heap Kh_14.out 0 (by simp)).1
      have ch1 := (cells_of_heap Kh_14.out 1 (by simp)).1
      have ch2 := (cells_of_heap Kh_14.out 2 (by simp)).1
      have ch3 := (cells_of_heap Kh_14.out 3 (by simp)).1
      go_wp2_with fail
      refine (implIsAction_q k c m n true HOKH.out _).mono ?_
      rintro e w15 ⟨rfl, hb⟩
      clear ca0 ca1 ca2 ca3 cx0 cx1 cx2 cx3 cy0 cy1 cy2 cy3 ct0 ct1 ct2 ct3 ch0 ch1 ch2 ch3
      have HB15 := Lib.hid (HB14.out.trans (hb.mono HB14.out.size))
      have HS15 := Lib.hid hb.size
      have Ka_15 := Lib.hid (blk_below Ka_14.out hb)
      have Kx_15 := Lib.hid (blk_below Kx_14.out hb)
      have Ky_15 := Lib.hid (blk_below Ky_14.out hb)
      have Kt_15 := Lib.hid (blk_below Kt_14.out hb)
      have Kh_15 := Lib.hid (blk_below Kh_14.out hb)
      clear Ka_14 Kx_14 Ky_14 Kt_14 Kh_14
      clear hb
      have ca0 := (cells_of_heap Ka_15.out 0 (by simp)).1
      have ca1 := (cells_of_heap Ka_15.out 1 (by simp)).1
      have ca2 := (cells_of_heap Ka_15.out 2 (by simp)).1
      have ca3 := (cells_of_heap Ka_15.out 3 (by simp)).1
      have cx0 := (cells_of_heap Kx_15.out 0 (by simp)).1
      have cx1 := (cells_of_heap Kx_15.out 1 (by simp)).1
      have cx2 := (cells_of_heap Kx_15.out 2 (by simp)).1
      have cx3 := (cells_of_heap Kx_15.out 3 (by simp)).1
      have cy0 := (cells_of_heap Ky_15.out 0 (by simp)).1
      have cy1 := (cells_of_heap Ky_15.out 1 (by simp)).1
      have cy2 := (cells_of_heap Ky_15.out 2 (by simp)).1
      have cy3 := (cells_of_heap Ky_15.out 3 (by simp)).1
      have ct0 := (cells_of_heap Kt_15.out 0 (by simp)).1
      have ct1 := (cells_of_heap Kt_15.out 1 (by simp)).1
      have ct2 := (cells_of_heap Kt_15.out 2 (by simp)).1
      have ct3 := (cells_of_heap Kt_15.out 3 (by simp)).1
      have ch0 := (cells_of_heap Kh_15.out 0 (by simp)).1
      have ch1 := (cells_of_heap Kh_15.out 1 (by simp)).1
      have ch2 := (cells_of_heap Kh_15.out 2 (by simp)).1
      have ch3 := (cells_of_heap Kh_15.out 3 (by simp)).1
      go_wp2_with fail
      refine (implIsTapHold_q k c m n false HTT.out _).mono ?_
      rintro e w16 ⟨rfl, hb⟩
      clear ca0 ca1 ca2 ca3 cx0 cx1 cx2 cx3 cy0 cy1 cy2 cy3 ct0 ct1 ct2 ct3 ch0 ch1 ch2 ch3
      have HB16 := Lib.hid (HB15.out.trans (hb.mono HB15.out.size))
      have HS16 := Lib.hid hb.size
      have Ka_16 := Lib.hid (blk_below Ka_15.out hb)
      have Kx_16 := Lib.hid (blk_below Kx_15.out hb)
      have Ky_16 := Lib.hid (blk_below Ky_15.out hb)
      have Kt_16 := Lib.hid (blk_below Kt_15.out hb)
      have Kh_16 := Lib.hid (blk_below Kh_15.out hb)
      clear Ka_15 Kx_15 Ky_15 Kt_15 Kh_15
      clear hb
      have ca0 := (cells_of_heap Ka_16.out 0 (by simp)).1
      have ca1 := (cells_of_heap Ka_16.out 1 (by simp)).1
      have ca2 := (cells_of_heap Ka_16.out 2 (by simp)).1
      have ca3 := (cells_of_heap Ka_16.out 3 (by simp)).1
      have cx0 := (cells_of_heap Kx_16.out 0 (by simp)).1
      have cx1 := (cells_of_heap Kx_16.out 1 (by simp)).1
      have cx2 := (cells_of_heap Kx_16.out 2 (by simp)).1
      have cx3 := (cells_of_heap Kx_16.out 3 (by simp)).1
      have cy0 := (cells_of_heap Ky_16.out 0 (by simp)).1
      have cy1 := (cells_of_heap Ky_16.out 1 (by simp)).1
      have cy2 := (cells_of_heap Ky_16.out 2 (by simp)).1
      have cy3 := (cells_of_heap Ky_16.out 3 (by simp)).1
      have ct0 := (cells_of_heap Kt_16.out 0 (by simp)).1
      have ct1 := (cells_of_heap Kt_16.out 1 (by simp)).1
      have ct2 := (cells_of_heap Kt_16.out 2 (by simp)).1
      have ct3 := (cells_of_heap Kt_16.out 3 (by simp)).1
      have ch0 := (cells_of_heap Kh_16.out 0 (by simp)).1
      have ch1 := (cells_of_heap Kh_16.out 1 (by simp)).1
      have ch2 := (cells_of_heap Kh_16.out 2 (by simp)).1
      have ch3 := (cells_of_heap Kh_16.out 3 (by simp)).1
      go_wp2_with fail
      refine (implIsTapHold_q k c m n false HTH.out _).mono ?_
      rintro e w17 ⟨rfl, hb⟩
      clear ca0 ca1 ca2 ca3 cx0 cx1 cx2 cx3 cy0 cy1 cy2 cy3 ct0 ct1 ct2 ct3 ch0 ch1 ch2 ch3
      have HB17 := Lib.hid (HB16.out.trans (hb.mono HB16.out.size))
      have HS17 := Lib.hid hb.size
      have Ka_17 := Lib.hid (blk_below Ka_16.out hb)
      have Kx_17 := Lib.hid (blk_below Kx_16.out hb)
      have Ky_17 := Lib.hid (blk_below Ky_16.out hb)
      have Kt_17 := Lib.hid (blk_below Kt_16.out hb)
      have Kh_17 := Lib.hid (blk_below Kh_16.out hb)
      clear Ka_16 Kx_16 Ky_16 Kt_16 Kh_16
      clear hb
      go_upto_region 10 with (fail)
      have hba := (Array.getElem?_eq_some_iff.mp Ka_17.out).1
      have ca0 := Far.cell hba (cells_of_heap Ka_17.out 0 (by simp)).1
      have ca1 := Far.cell hba (cells_of_heap Ka_17.out 1 (by simp)).1
      have ca2 := Far.cell hba (cells_of_heap Ka_17.out 2 (by simp)).1
      have ca3 := Far.cell hba (cells_of_heap Ka_17.out 3 (by simp)).1
      simp only [List.getElem_toArray, List.getElem_cons_zero, List.getElem_cons_succ] at ca0 ca1 ca2 ca3
      have hbt := (Array.getElem?_eq_some_iff.mp Kt_17.out).1
      have ct0 := Far.cell hbt (cells_of_heap Kt_17.out 0 (by simp)).1
      have ct1 := Far.cell hbt (cells_of_heap Kt_17.out 1 (by simp)).1
      have ct2 := Far.cell hbt (cells_of_heap Kt_17.out 2 (by simp)).1
      have ct3 := Far.cell hbt (cells_of_heap Kt_17.out 3 (by simp)).1
      simp only [List.getElem_toArray, List.getElem_cons_zero, List.getElem_cons_succ] at ct0 ct1 ct2 ct3
      have hbh := (Array.getElem?_eq_some_iff.mp Kh_17.out).1
      have ch0 := Far.cell hbh (cells_of_heap Kh_17.out 0 (by simp)).1
      have ch1 := Far.cell hbh (cells_of_heap Kh_17.out 1 (by simp)).1
      have ch2 := Far.cell hbh (cells_of_heap Kh_17.out 2 (by simp)).1
      have ch3 := Far.cell hbh (cells_of_heap Kh_17.out 3 (by simp)).1
      simp only [List.getElem_toArray, List.getElem_cons_zero, List.getElem_cons_succ] at ch0 ch1 ch2 ch3
      have HTF := Lib.hid (HTB.out.below HB17.out)
      refine wp_region_far (by kernel_rfl) (by kernel_rfl) ?_
      repeat (go_big_quiet_step (first | (go_at_call 24; exact Far.call (implIsTapHold_q k c m n false HTA.out _)) | (go_at_call 26; exact Far.call (implCodeName_f c CN HCN.out _ (HTF.out.below (Far.low _)))) | (go_at_call 25; exact Far.call (implCodeOf_n CN CC HCC.out _ (HTF.out.below (Far.low _)))) | (go_at_call 28; exact Far.call (implFormatMods_f m MN HMN.out _)) | (go_at_call 27; exact Far.call (implParseMods_n MN MM HMM.out _))))
      refine wpQuiet_nil ?_
      intro _ hw'
      obtain ⟨xw, rfl⟩ := hw'
      go_wp2
      go_ret
      exact ⟨rfl, HB17.out.trans (xw.low.mono HB17.out.size)⟩
    · have hkk : k = 6 ∨ k = 7 := by have := hv.symm; unfold holdAc at this; simp at this; exact this.2
      rcases hkk with rfl | rfl
      · skip
        have HTP := Lib.hid (show tapR ⟨6, c, m, n⟩ = ⟨2, c, 0, 0⟩ by rw [tapR, ← hv]; rfl)
        have HHP := Lib.hid (show holdR ⟨6, c, m, n⟩ = ⟨2, 0, m, 0⟩ by rw [holdR, ← hv]; rfl)
        have HOKT := Lib.hid (show true = okAc 2 c 0 0 from (by have := HOKA.out.symm; unfold okAc inB at *; simp at *; omega))
        have HOKH := Lib.hid (show true = okAc 2 0 m 0 from (by have := HOKA.out.symm; unfold okAc inB at *; simp at *; omega))
        have HTT := Lib.hid (show false = holdAc 2 c 0 0 by unfold holdAc; simp)
        have HTH := Lib.hid (show false = holdAc 2 0 m 0 by unfold holdAc; simp)
        have HTA := Lib.hid hv
        clear hv
        have ca0 := (cells_of_heap Ka_8.out 0 (by simp)).1
        have ca1 := (cells_of_heap Ka_8.out 1 (by simp)).1
        have ca2 := (cells_of_heap Ka_8.out 2 (by simp)).1
        have ca3 := (cells_of_heap Ka_8.out 3 (by simp)).1
        go_wp2_with fail
        refine (implTapOf_r 6 c m n 2 c 0 0 HTP.out _).mono ?_
        rintro e w9 ⟨rfl, hb⟩
        clear ca0 ca1 ca2 ca3
        have HB9 := Lib.hid (HB8.out.trans (hb.mono HB8.out.size))
        have HS9 := Lib.hid hb.size
        have Ka_9 := Lib.hid (blk_below Ka_8.out hb)
        have Kx_9 := Lib.hid (blk_below Kx_8.out hb)
        have Ky_9 := Lib.hid (blk_below Ky_8.out hb)
        clear Ka_8 Kx_8 Ky_8
        clear hb
        go_upto_region 7 with (fail)
        obtain ⟨w10, hw⟩ : ∃ x, x = w9.alloc (.cells #[.int .i64 2, .int .i64 c, .int .i64 0, .int .i64 0] 37) := ⟨_, rfl⟩
        have hb : Below w9.heap.size w9 w10 := by rw [hw]; exact below_alloc1 _ _
        have hk : w10.heap[w9.heap.size]? = some (.cells #[.int .i64 2, .int .i64 c, .int .i64 0, .int .i64 0] 37 (0, 0)) := by rw [hw]; exact heap_alloc_new _ _
        rw [← hw]
        have HB10 := Lib.hid (HB9.out.trans (hb.mono HB9.out.size))
        have HS10 := Lib.hid (show w9.heap.size < w10.heap.size from (Array.getElem?_eq_some_iff.mp hk).1)
        have Ka_10 := Lib.hid (blk_below Ka_9.out hb)
        have Kx_10 := Lib.hid (blk_below Kx_9.out hb)
        have Ky_10 := Lib.hid (blk_below Ky_9.out hb)
        clear Ka_9 Kx_9 Ky_9
        have Kt_10 := Lib.hid hk
        clear hb hk hw
        have ca0 := (cells_of_heap Ka_10.out 0 (by simp)).1
        have ca1 := (cells_of_heap Ka_10.out 1 (by simp)).1
        have ca2 := (cells_of_heap Ka_10.out 2 (by simp)).1
        have ca3 := (cells_of_heap Ka_10.out 3 (by simp)).1
        go_wp2_with fail
        refine (implHoldOf_r 6 c m n 2 0 m 0 HHP.out _).mono ?_
        rintro e w11 ⟨rfl, hb⟩
        clear ca0 ca1 ca2 ca3
        have HB11 := Lib.hid (HB10.out.trans (hb.mono HB10.out.size))
        have HS11 := Lib.hid hb.size
        have Ka_11 := Lib.hid (blk_below Ka_10.out hb)
        have Kx_11 := Lib.hid (blk_below Kx_10.out hb)
        have Ky_11 := Lib.hid (blk_below Ky_10.out hb)
        have Kt_11 := Lib.hid (blk_below Kt_10.out hb)
        clear Ka_10 Kx_10 Ky_10 Kt_10
        clear hb
        go_upto_region 8 with (fail)
        obtain ⟨w12, hw⟩ : ∃ x, x = w11.alloc (.cells #[.int .i64 2, .int .i64 0, .int .i64 m, .int .i64 0] 37) := ⟨_, rfl⟩
        have hb : Below w11.heap.size w11 w12 := by rw [hw]; exact below_alloc1 _ _
        have hk : w12.heap[w11.heap.size]? = some (.cells #[.int .i64 2, .int .i64 0, .int .i64 m, .int .i64 0] 37 (0, 0)) := by rw [hw]; exact heap_alloc_new _ _
        rw [← hw]
        have HB12 := Lib.hid (HB11.out.trans (hb.mono HB11.out.size))
        have HS12 := Lib.hid (show w11.heap.size < w12.heap.size from (Array.getElem?_eq_some_iff.mp hk).1)
        have Ka_12 := Lib.hid (blk_below Ka_11.out hb)
        have Kx_12 := Lib.hid (blk_below Kx_11.out hb)
        have Ky_12 := Lib.hid (blk_below Ky_11.out hb)
        have Kt_12 := Lib.hid (blk_below Kt_11.out hb)
        clear Ka_11 Kx_11 Ky_11 Kt_11
        have Kh_12 := Lib.hid hk
        clear hb hk hw
        have ca0 := (cells_of_heap Ka_12.out 0 (by simp)).1
        have ca1 := (cells_of_heap Ka_12.out 1 (by simp)).1
        have ca2 := (cells_of_heap Ka_12.out 2 (by simp)).1
        have ca3 := (cells_of_heap Ka_12.out 3 (by simp)).1
        have cx0 := (cells_of_heap Kx_12.out 0 (by simp)).1
        have cx1 := (cells_of_heap Kx_12.out 1 (by simp)).1
        have cx2 := (cells_of_heap Kx_12.out 2 (by simp)).1
        have cx3 := (cells_of_heap Kx_12.out 3 (by simp)).1
        have cy0 := (cells_of_heap Ky_12.out 0 (by simp)).1
        have cy1 := (cells_of_heap Ky_12.out 1 (by simp)).1
        have cy2 := (cells_of_heap Ky_12.out 2 (by simp)).1
        have cy3 := (cells_of_heap Ky_12.out 3 (by simp)).1
        have ct0 := (cells_of_heap Kt_12.out 0 (by simp)).1
        have ct1 := (cells_of_heap Kt_12.out 1 (by simp)).1
        have ct2 := (cells_of_heap Kt_12.out 2 (by simp)).1
        have ct3 := (cells_of_heap Kt_12.out 3 (by simp)).1
        have ch0 := (cells_of_heap Kh_12.out 0 (by simp)).1
        have ch1 := (cells_of_heap Kh_12.out 1 (by simp)).1
        have ch2 := (cells_of_heap Kh_12.out 2 (by simp)).1
        have ch3 := (cells_of_heap Kh_12.out 3 (by simp)).1
        go_wp2_with fail
        refine (implIsAction_q 6 c m n true HOKA.out _).mono ?_
        rintro e w13 ⟨rfl, hb⟩
        clear ca0 ca1 ca2 ca3 cx0 cx1 cx2 cx3 cy0 cy1 cy2 cy3 ct0 ct1 ct2 ct3 ch0 ch1 ch2 ch3
        have HB13 := Lib.hid (HB12.out.trans (hb.mono HB12.out.size))
        have HS13 := Lib.hid hb.size
        have Ka_13 := Lib.hid (blk_below Ka_12.out hb)
        have Kx_13 := Lib.hid (blk_below Kx_12.out hb)
        have Ky_13 := Lib.hid (blk_below Ky_12.out hb)
        have Kt_13 := Lib.hid (blk_below Kt_12.out hb)
        have Kh_13 := Lib.hid (blk_below Kh_12.out hb)
        clear Ka_12 Kx_12 Ky_12 Kt_12 Kh_12
        clear hb
        have ca0 := (cells_of_heap Ka_13.out 0 (by simp)).1
        have ca1 := (cells_of_heap Ka_13.out 1 (by simp)).1
        have ca2 := (cells_of_heap Ka_13.out 2 (by simp)).1
        have ca3 := (cells_of_heap Ka_13.out 3 (by simp)).1
        have cx0 := (cells_of_heap Kx_13.out 0 (by simp)).1
        have cx1 := (cells_of_heap Kx_13.out 1 (by simp)).1
        have cx2 := (cells_of_heap Kx_13.out 2 (by simp)).1
        have cx3 := (cells_of_heap Kx_13.out 3 (by simp)).1
        have cy0 := (cells_of_heap Ky_13.out 0 (by simp)).1
        have cy1 := (cells_of_heap Ky_13.out 1 (by simp)).1
        have cy2 := (cells_of_heap Ky_13.out 2 (by simp)).1
        have cy3 := (cells_of_heap Ky_13.out 3 (by simp)).1
        have ct0 := (cells_of_heap Kt_13.out 0 (by simp)).1
        have ct1 := (cells_of_heap Kt_13.out 1 (by simp)).1
        have ct2 := (cells_of_heap Kt_13.out 2 (by simp)).1
        have ct3 := (cells_of_heap Kt_13.out 3 (by simp)).1
        have ch0 := (cells_of_heap Kh_13.out 0 (by simp)).1
        have ch1 := (cells_of_heap Kh_13.out 1 (by simp)).1
        have ch2 := (cells_of_heap Kh_13.out 2 (by simp)).1
        have ch3 := (cells_of_heap Kh_13.out 3 (by simp)).1
        go_wp2_with fail
        refine (implIsAction_q 2 c 0 0 true HOKT.out _).mono ?_
        rintro e w14 ⟨rfl, hb⟩
        clear ca0 ca1 ca2 ca3 cx0 cx1 cx2 cx3 cy0 cy1 cy2 cy3 ct0 ct1 ct2 ct3 ch0 ch1 ch2 ch3
        have HB14 := Lib.hid (HB13.out.trans (hb.mono HB13.out.size))
        have HS14 := Lib.hid hb.size
        have Ka_14 := Lib.hid (blk_below Ka_13.out hb)
        have Kx_14 := Lib.hid (blk_below Kx_13.out hb)
        have Ky_14 := Lib.hid (blk_below Ky_13.out hb)
        have Kt_14 := Lib.hid (blk_below Kt_13.out hb)
        have Kh_14 := Lib.hid (blk_below Kh_13.out hb)
        clear Ka_13 Kx_13 Ky_13 Kt_13 Kh_13
        clear hb
        have ca0 := (cells_of_heap Ka_14.out 0 (by simp)).1
        have ca1 := (cells_of_heap Ka_14.out 1 (by simp)).1
        have ca2 := (cells_of_heap Ka_14.out 2 (by simp)).1
        have ca3 := (cells_of_heap Ka_14.out 3 (by simp)).1
        have cx0 := (cells_of_heap Kx_14.out 0 (by simp)).1
        have cx1 := (cells_of_heap Kx_14.out 1 (by simp)).1
        have cx2 := (cells_of_heap Kx_14.out 2 (by simp)).1
        have cx3 := (cells_of_heap Kx_14.out 3 (by simp)).1
        have cy0 := (cells_of_heap Ky_14.out 0 (by simp)).1
        have cy1 := (cells_of_heap Ky_14.out 1 (by simp)).1
        have cy2 := (cells_of_heap Ky_14.out 2 (by simp)).1
        have cy3 := (cells_of_heap Ky_14.out 3 (by simp)).1
        have ct0 := (cells_of_heap Kt_14.out 0 (by simp)).1
        have ct1 := (cells_of_heap Kt_14.out 1 (by simp)).1
        have ct2 := (cells_of_heap Kt_14.out 2 (by simp)).1
        have ct3 := (cells_of_heap Kt_14.out 3 (by simp)).1
        have ch0 := (cells_of_heap Kh_14.out 0 (by simp)).1
        have ch1 := (cells_of_heap Kh_14.out 1 (by simp)).1
        have ch2 := (cells_of_heap Kh_14.out 2 (by simp)).1
        have ch3 := (cells_of_heap Kh_14.out 3 (by simp)).1
        go_wp2_with fail
        refine (implIsAction_q 2 0 m 0 true HOKH.out _).mono ?_
        rintro e w15 ⟨rfl, hb⟩
        clear ca0 ca1 ca2 ca3 cx0 cx1 cx2 cx3 cy0 cy1 cy2 cy3 ct0 ct1 ct2 ct3 ch0 ch1 ch2 ch3
        have HB15 := Lib.hid (HB14.out.trans (hb.mono HB14.out.size))
        have HS15 := Lib.hid hb.size
        have Ka_15 := Lib.hid (blk_below Ka_14.out hb)
        have Kx_15 := Lib.hid (blk_below Kx_14.out hb)
        have Ky_15 := Lib.hid (blk_below Ky_14.out hb)
        have Kt_15 := Lib.hid (blk_below Kt_14.out hb)
        have Kh_15 := Lib.hid (blk_below Kh_14.out hb)
        clear Ka_14 Kx_14 Ky_14 Kt_14 Kh_14
        clear hb
        have ca0 := (cells_of_heap Ka_15.out 0 (by simp)).1
        have ca1 := (cells_of_heap Ka_15.out 1 (by simp)).1
        have ca2 := (cells_of_heap Ka_15.out 2 (by simp)).1
        have ca3 := (cells_of_heap Ka_15.out 3 (by simp)).1
        have cx0 := (cells_of_heap Kx_15.out 0 (by simp)).1
        have cx1 := (cells_of_heap Kx_15.out 1 (by simp)).1
        have cx2 := (cells_of_heap Kx_15.out 2 (by simp)).1
        have cx3 := (cells_of_heap Kx_15.out 3 (by simp)).1
        have cy0 := (cells_of_heap Ky_15.out 0 (by simp)).1
        have cy1 := (cells_of_heap Ky_15.out 1 (by simp)).1
        have cy2 := (cells_of_heap Ky_15.out 2 (by simp)).1
        have cy3 := (cells_of_heap Ky_15.out 3 (by simp)).1
        have ct0 := (cells_of_heap Kt_15.out 0 (by simp)).1
        have ct1 := (cells_of_heap Kt_15.out 1 (by simp)).1
        have ct2 := (cells_of_heap Kt_15.out 2 (by simp)).1
        have ct3 := (cells_of_heap Kt_15.out 3 (by simp)).1
        have ch0 := (cells_of_heap Kh_15.out 0 (by simp)).1
        have ch1 := (cells_of_heap Kh_15.out 1 (by simp)).1
        have ch2 := (cells_of_heap Kh_15.out 2 (by simp)).1
        have ch3 := (cells_of_heap Kh_15.out 3 (by simp)).1
        go_wp2_with fail
        refine (implIsTapHold_q 2 c 0 0 false HTT.out _).mono ?_
        rintro e w16 ⟨rfl, hb⟩
        clear ca0 ca1 ca2 ca3 cx0 cx1 cx2 cx3 cy0 cy1 cy2 cy3 ct0 ct1 ct2 ct3 ch0 ch1 ch2 ch3
        have HB16 := Lib.hid (HB15.out.trans (hb.mono HB15.out.size))
        have HS16 := Lib.hid hb.size
        have Ka_16 := Lib.hid (blk_below Ka_15.out hb)
        have Kx_16 := Lib.hid (blk_below Kx_15.out hb)
        have Ky_16 := Lib.hid (blk_below Ky_15.out hb)
        have Kt_16 := Lib.hid (blk_below Kt_15.out hb)
        have Kh_16 := Lib.hid (blk_below Kh_15.out hb)
        clear Ka_15 Kx_15 Ky_15 Kt_15 Kh_15
        clear hb
        have ca0 := (cells_of_heap Ka_16.out 0 (by simp)).1
        have ca1 := (cells_of_heap Ka_16.out 1 (by simp)).1
        have ca2 := (cells_of_heap Ka_16.out 2 (by simp)).1
        have ca3 := (cells_of_heap Ka_16.out 3 (by simp)).1
        have cx0 := (cells_of_heap Kx_16.out 0 (by simp)).1
        have cx1 := (cells_of_heap Kx_16.out 1 (by simp)).1
        have cx2 := (cells_of_heap Kx_16.out 2 (by simp)).1
        have cx3 := (cells_of_heap Kx_16.out 3 (by simp)).1
        have cy0 := (cells_of_heap Ky_16.out 0 (by simp)).1
        have cy1 := (cells_of_heap Ky_16.out 1 (by simp)).1
        have cy2 := (cells_of_heap Ky_16.out 2 (by simp)).1
        have cy3 := (cells_of_heap Ky_16.out 3 (by simp)).1
        have ct0 := (cells_of_heap Kt_16.out 0 (by simp)).1
        have ct1 := (cells_of_heap Kt_16.out 1 (by simp)).1
        have ct2 := (cells_of_heap Kt_16.out 2 (by simp)).1
        have ct3 := (cells_of_heap Kt_16.out 3 (by simp)).1
        have ch0 := (cells_of_heap Kh_16.out 0 (by simp)).1
        have ch1 := (cells_of_heap Kh_16.out 1 (by simp)).1
        have ch2 := (cells_of_heap Kh_16.out 2 (by simp)).1
        have ch3 := (cells_of_heap Kh_16.out 3 (by simp)).1
        go_wp2_with fail
        refine (implIsTapHold_q 2 0 m 0 false HTH.out _).mono ?_
        rintro e w17 ⟨rfl, hb⟩
        clear ca0 ca1 ca2 ca3 cx0 cx1 cx2 cx3 cy0 cy1 cy2 cy3 ct0 ct1 ct2 ct3 ch0 ch1 ch2 ch3
        have HB17 := Lib.hid (HB16.out.trans (hb.mono HB16.out.size))
        have HS17 := Lib.hid hb.size
        have Ka_17 := Lib.hid (blk_below Ka_16.out hb)
        have Kx_17 := Lib.hid (blk_below Kx_16.out hb)
        have Ky_17 := Lib.hid (blk_below Ky_16.out hb)
        have Kt_17 := Lib.hid (blk_below Kt_16.out hb)
        have Kh_17 := Lib.hid (blk_below Kh_16.out hb)
        clear Ka_16 Kx_16 Ky_16 Kt_16 Kh_16
        clear hb
        go_upto_region 10 with (fail)
        have hba := (Array.getElem?_eq_some_iff.mp Ka_17.out).1
        have ca0 := Far.cell hba (cells_of_heap Ka_17.out 0 (by simp)).1
        have ca1 := Far.cell hba (cells_of_heap Ka_17.out 1 (by simp)).1
        have ca2 := Far.cell hba (cells_of_heap Ka_17.out 2 (by simp)).1
        have ca3 := Far.cell hba (cells_of_heap Ka_17.out 3 (by simp)).1
        simp only [List.getElem_toArray, List.getElem_cons_zero, List.getElem_cons_succ] at ca0 ca1 ca2 ca3
        have hbt := (Array.getElem?_eq_some_iff.mp Kt_17.out).1
        have ct0 := Far.cell hbt (cells_of_heap Kt_17.out 0 (by simp)).1
        have ct1 := Far.cell hbt (cells_of_heap Kt_17.out 1 (by simp)).1
        have ct2 := Far.cell hbt (cells_of_heap Kt_17.out 2 (by simp)).1
        have ct3 := Far.cell hbt (cells_of_heap Kt_17.out 3 (by simp)).1
        simp only [List.getElem_toArray, List.getElem_cons_zero, List.getElem_cons_succ] at ct0 ct1 ct2 ct3
        have hbh := (Array.getElem?_eq_some_iff.mp Kh_17.out).1
        have ch0 := Far.cell hbh (cells_of_heap Kh_17.out 0 (by simp)).1
        have ch1 := Far.cell hbh (cells_of_heap Kh_17.out 1 (by simp)).1
        have ch2 := Far.cell hbh (cells_of_heap Kh_17.out 2 (by simp)).1
        have ch3 := Far.cell hbh (cells_of_heap Kh_17.out 3 (by simp)).1
        simp only [List.getElem_toArray, List.getElem_cons_zero, List.getElem_cons_succ] at ch0 ch1 ch2 ch3
        have HTF := Lib.hid (HTB.out.below HB17.out)
        refine wp_region_far (by kernel_rfl) (by kernel_rfl) ?_
        repeat (go_big_quiet_step (first | (go_at_call 24; exact Far.call (implIsTapHold_q 6 c m n true HTA.out _)) | (go_at_call 26; exact Far.call (implCodeName_f c CN HCN.out _ (HTF.out.below (Far.low _)))) | (go_at_call 25; exact Far.call (implCodeOf_n CN CC HCC.out _ (HTF.out.below (Far.low _)))) | (go_at_call 28; exact Far.call (implFormatMods_f m MN HMN.out _)) | (go_at_call 27; exact Far.call (implParseMods_n MN MM HMM.out _))))
        refine wpQuiet_nil ?_
        intro _ hw'
        obtain ⟨xw, rfl⟩ := hw'
        go_wp2
        go_ret
        exact ⟨rfl, HB17.out.trans (xw.low.mono HB17.out.size)⟩
      · skip
        have HTP := Lib.hid (show tapR ⟨7, c, m, n⟩ = ⟨2, c, 0, 0⟩ by rw [tapR, ← hv]; rfl)
        have HHP := Lib.hid (show holdR ⟨7, c, m, n⟩ = ⟨3, 0, 0, n⟩ by rw [holdR, ← hv]; rfl)
        have HOKT := Lib.hid (show true = okAc 2 c 0 0 from (by have := HOKA.out.symm; unfold okAc inB at *; simp at *; omega))
        have HOKH := Lib.hid (show true = okAc 3 0 0 n from (by have := HOKA.out.symm; unfold okAc inB at *; simp at *; omega))
        have HTT := Lib.hid (show false = holdAc 2 c 0 0 by unfold holdAc; simp)
        have HTH := Lib.hid (show false = holdAc 3 0 0 n by unfold holdAc; simp)
        have HTA := Lib.hid hv
        clear hv
        have ca0 := (cells_of_heap Ka_8.out 0 (by simp)).1
        have ca1 := (cells_of_heap Ka_8.out 1 (by simp)).1
        have ca2 := (cells_of_heap Ka_8.out 2 (by simp)).1
        have ca3 := (cells_of_heap Ka_8.out 3 (by simp)).1
        go_wp2_with fail
        refine (implTapOf_r 7 c m n 2 c 0 0 HTP.out _).mono ?_
        rintro e w9 ⟨rfl, hb⟩
        clear ca0 ca1 ca2 ca3
        have HB9 := Lib.hid (HB8.out.trans (hb.mono HB8.out.size))
        have HS9 := Lib.hid hb.size
        have Ka_9 := Lib.hid (blk_below Ka_8.out hb)
        have Kx_9 := Lib.hid (blk_below Kx_8.out hb)
        have Ky_9 := Lib.hid (blk_below Ky_8.out hb)
        clear Ka_8 Kx_8 Ky_8
        clear hb
        go_upto_region 7 with (fail)
        obtain ⟨w10, hw⟩ : ∃ x, x = w9.alloc (.cells #[.int .i64 2, .int .i64 c, .int .i64 0, .int .i64 0] 37) := ⟨_, rfl⟩
        have hb : Below w9.heap.size w9 w10 := by rw [hw]; exact below_alloc1 _ _
        have hk : w10.heap[w9.heap.size]? = some (.cells #[.int .i64 2, .int .i64 c, .int .i64 0, .int .i64 0] 37 (0, 0)) := by rw [hw]; exact heap_alloc_new _ _
        rw [← hw]
        have HB10 := Lib.hid (HB9.out.trans (hb.mono HB9.out.size))
        have HS10 := Lib.hid (show w9.heap.size < w10.heap.size from (Array.getElem?_eq_some_iff.mp hk).1)
        have Ka_10 := Lib.hid (blk_below Ka_9.out hb)
        have Kx_10 := Lib.hid (blk_below Kx_9.out hb)
        have Ky_10 := Lib.hid (blk_below Ky_9.out hb)
        clear Ka_9 Kx_9 Ky_9
        have Kt_10 := Lib.hid hk
        clear hb hk hw
        have ca0 := (cells_of_heap Ka_10.out 0 (by simp)).1
        have ca1 := (cells_of_heap Ka_10.out 1 (by simp)).1
        have ca2 := (cells_of_heap Ka_10.out 2 (by simp)).1
        have ca3 := (cells_of_heap Ka_10.out 3 (by simp)).1
        go_wp2_with fail
        refine (implHoldOf_r 7 c m n 3 0 0 n HHP.out _).mono ?_
        rintro e w11 ⟨rfl, hb⟩
        clear ca0 ca1 ca2 ca3
        have HB11 := Lib.hid (HB10.out.trans (hb.mono HB10.out.size))
        have HS11 := Lib.hid hb.size
        have Ka_11 := Lib.hid (blk_below Ka_10.out hb)
        have Kx_11 := Lib.hid (blk_below Kx_10.out hb)
        have Ky_11 := Lib.hid (blk_below Ky_10.out hb)
        have Kt_11 := Lib.hid (blk_below Kt_10.out hb)
        clear Ka_10 Kx_10 Ky_10 Kt_10
        clear hb
        go_upto_region 8 with (fail)
        obtain ⟨w12, hw⟩ : ∃ x, x = w11.alloc (.cells #[.int .i64 3, .int .i64 0, .int .i64 0, .int .i64 n] 37) := ⟨_, rfl⟩
        have hb : Below w11.heap.size w11 w12 := by rw [hw]; exact below_alloc1 _ _
        have hk : w12.heap[w11.heap.size]? = some (.cells #[.int .i64 3, .int .i64 0, .int .i64 0, .int .i64 n] 37 (0, 0)) := by rw [hw]; exact heap_alloc_new _ _
        rw [← hw]
        have HB12 := Lib.hid (HB11.out.trans (hb.mono HB11.out.size))
        have HS12 := Lib.hid (show w11.heap.size < w12.heap.size from (Array.getElem?_eq_some_iff.mp hk).1)
        have Ka_12 := Lib.hid (blk_below Ka_11.out hb)
        have Kx_12 := Lib.hid (blk_below Kx_11.out hb)
        have Ky_12 := Lib.hid (blk_below Ky_11.out hb)
        have Kt_12 := Lib.hid (blk_below Kt_11.out hb)
        clear Ka_11 Kx_11 Ky_11 Kt_11
        have Kh_12 := Lib.hid hk
        clear hb hk hw
        have ca0 := (cells_of_heap Ka_12.out 0 (by simp)).1
        have ca1 := (cells_of_heap Ka_12.out 1 (by simp)).1
        have ca2 := (cells_of_heap Ka_12.out 2 (by simp)).1
        have ca3 := (cells_of_heap Ka_12.out 3 (by simp)).1
        have cx0 := (cells_of_heap Kx_12.out 0 (by simp)).1
        have cx1 := (cells_of_heap Kx_12.out 1 (by simp)).1
        have cx2 := (cells_of_heap Kx_12.out 2 (by simp)).1
        have cx3 := (cells_of_heap Kx_12.out 3 (by simp)).1
        have cy0 := (cells_of_heap Ky_12.out 0 (by simp)).1
        have cy1 := (cells_of_heap Ky_12.out 1 (by simp)).1
        have cy2 := (cells_of_heap Ky_12.out 2 (by simp)).1
        have cy3 := (cells_of_heap Ky_12.out 3 (by simp)).1
        have ct0 := (cells_of_heap Kt_12.out 0 (by simp)).1
        have ct1 := (cells_of_heap Kt_12.out 1 (by simp)).1
        have ct2 := (cells_of_heap Kt_12.out 2 (by simp)).1
        have ct3 := (cells_of_heap Kt_12.out 3 (by simp)).1
        have ch0 := (cells_of_heap Kh_12.out 0 (by simp)).1
        have ch1 := (cells_of_heap Kh_12.out 1 (by simp)).1
        have ch2 := (cells_of_heap Kh_12.out 2 (by simp)).1
        have ch3 := (cells_of_heap Kh_12.out 3 (by simp)).1
        go_wp2_with fail
        refine (implIsAction_q 7 c m n true HOKA.out _).mono ?_
        rintro e w13 ⟨rfl, hb⟩
        clear ca0 ca1 ca2 ca3 cx0 cx1 cx2 cx3 cy0 cy1 cy2 cy3 ct0 ct1 ct2 ct3 ch0 ch1 ch2 ch3
        have HB13 := Lib.hid (HB12.out.trans (hb.mono HB12.out.size))
        have HS13 := Lib.hid hb.size
        have Ka_13 := Lib.hid (blk_below Ka_12.out hb)
        have Kx_13 := Lib.hid (blk_below Kx_12.out hb)
        have Ky_13 := Lib.hid (blk_below Ky_12.out hb)
        have Kt_13 := Lib.hid (blk_below Kt_12.out hb)
        have Kh_13 := Lib.hid (blk_below Kh_12.out hb)
        clear Ka_12 Kx_12 Ky_12 Kt_12 Kh_12
        clear hb
        have ca0 := (cells_of_heap Ka_13.out 0 (by simp)).1
        have ca1 := (cells_of_heap Ka_13.out 1 (by simp)).1
        have ca2 := (cells_of_heap Ka_13.out 2 (by simp)).1
        have ca3 := (cells_of_heap Ka_13.out 3 (by simp)).1
        have cx0 := (cells_of_heap Kx_13.out 0 (by simp)).1
        have cx1 := (cells_of_heap Kx_13.out 1 (by simp)).1
        have cx2 := (cells_of_heap Kx_13.out 2 (by simp)).1
        have cx3 := (cells_of_heap Kx_13.out 3 (by simp)).1
        have cy0 := (cells_of_heap Ky_13.out 0 (by simp)).1
        have cy1 := (cells_of_heap Ky_13.out 1 (by simp)).1
        have cy2 := (cells_of_heap Ky_13.out 2 (by simp)).1
        have cy3 := (cells_of_heap Ky_13.out 3 (by simp)).1
        have ct0 := (cells_of_heap Kt_13.out 0 (by simp)).1
        have ct1 := (cells_of_heap Kt_13.out 1 (by simp)).1
        have ct2 := (cells_of_heap Kt_13.out 2 (by simp)).1
        have ct3 := (cells_of_heap Kt_13.out 3 (by simp)).1
        have ch0 := (cells_of_heap Kh_13.out 0 (by simp)).1
        have ch1 := (cells_of_heap Kh_13.out 1 (by simp)).1
        have ch2 := (cells_of_heap Kh_13.out 2 (by simp)).1
        have ch3 := (cells_of_heap Kh_13.out 3 (by simp)).1
        go_wp2_with fail
        refine (implIsAction_q 2 c 0 0 true HOKT.out _).mono ?_
        rintro e w14 ⟨rfl, hb⟩
        clear ca0 ca1 ca2 ca3 cx0 cx1 cx2 cx3 cy0 cy1 cy2 cy3 ct0 ct1 ct2 ct3 ch0 ch1 ch2 ch3
        have HB14 := Lib.hid (HB13.out.trans (hb.mono HB13.out.size))
        have HS14 := Lib.hid hb.size
        have Ka_14 := Lib.hid (blk_below Ka_13.out hb)
        have Kx_14 := Lib.hid (blk_below Kx_13.out hb)
        have Ky_14 := Lib.hid (blk_below Ky_13.out hb)
        have Kt_14 := Lib.hid (blk_below Kt_13.out hb)
        have Kh_14 := Lib.hid (blk_below Kh_13.out hb)
        clear Ka_13 Kx_13 Ky_13 Kt_13 Kh_13
        clear hb
        have ca0 := (cells_of_heap Ka_14.out 0 (by simp)).1
        have ca1 := (cells_of_heap Ka_14.out 1 (by simp)).1
        have ca2 := (cells_of_heap Ka_14.out 2 (by simp)).1
        have ca3 := (cells_of_heap Ka_14.out 3 (by simp)).1
        have cx0 := (cells_of_heap Kx_14.out 0 (by simp)).1
        have cx1 := (cells_of_heap Kx_14.out 1 (by simp)).1
        have cx2 := (cells_of_heap Kx_14.out 2 (by simp)).1
        have cx3 := (cells_of_heap Kx_14.out 3 (by simp)).1
        have cy0 := (cells_of_heap Ky_14.out 0 (by simp)).1
        have cy1 := (cells_of_heap Ky_14.out 1 (by simp)).1
        have cy2 := (cells_of_heap Ky_14.out 2 (by simp)).1
        have cy3 := (cells_of_heap Ky_14.out 3 (by simp)).1
        have ct0 := (cells_of_heap Kt_14.out 0 (by simp)).1
        have ct1 := (cells_of_heap Kt_14.out 1 (by simp)).1
        have ct2 := (cells_of_heap Kt_14.out 2 (by simp)).1
        have ct3 := (cells_of_heap Kt_14.out 3 (by simp)).1
        have ch0 := (cells_of_heap Kh_14.out 0 (by simp)).1
        have ch1 := (cells_of_heap Kh_14.out 1 (by simp)).1
        have ch2 := (cells_of_heap Kh_14.out 2 (by simp)).1
        have ch3 := (cells_of_heap Kh_14.out 3 (by simp)).1
        go_wp2_with fail
        refine (implIsAction_q 3 0 0 n true HOKH.out _).mono ?_
        rintro e w15 ⟨rfl, hb⟩
        clear ca0 ca1 ca2 ca3 cx0 cx1 cx2 cx3 cy0 cy1 cy2 cy3 ct0 ct1 ct2 ct3 ch0 ch1 ch2 ch3
        have HB15 := Lib.hid (HB14.out.trans (hb.mono HB14.out.size))
        have HS15 := Lib.hid hb.size
        have Ka_15 := Lib.hid (blk_below Ka_14.out hb)
        have Kx_15 := Lib.hid (blk_below Kx_14.out hb)
        have Ky_15 := Lib.hid (blk_below Ky_14.out hb)
        have Kt_15 := Lib.hid (blk_below Kt_14.out hb)
        have Kh_15 := Lib.hid (blk_below Kh_14.out hb)
        clear Ka_14 Kx_14 Ky_14 Kt_14 Kh_14
        clear hb
        have ca0 := (cells_of_heap Ka_15.out 0 (by simp)).1
        have ca1 := (cells_of_heap Ka_15.out 1 (by simp)).1
        have ca2 := (cells_of_heap Ka_15.out 2 (by simp)).1
        have ca3 := (cells_of_heap Ka_15.out 3 (by simp)).1
        have cx0 := (cells_of_heap Kx_15.out 0 (by simp)).1
        have cx1 := (cells_of_heap Kx_15.out 1 (by simp)).1
        have cx2 := (cells_of_heap Kx_15.out 2 (by simp)).1
        have cx3 := (cells_of_heap Kx_15.out 3 (by simp)).1
        have cy0 := (cells_of_heap Ky_15.out 0 (by simp)).1
        have cy1 := (cells_of_heap Ky_15.out 1 (by simp)).1
        have cy2 := (cells_of_heap Ky_15.out 2 (by simp)).1
        have cy3 := (cells_of_heap Ky_15.out 3 (by simp)).1
        have ct0 := (cells_of_heap Kt_15.out 0 (by simp)).1
        have ct1 := (cells_of_heap Kt_15.out 1 (by simp)).1
        have ct2 := (cells_of_heap Kt_15.out 2 (by simp)).1
        have ct3 := (cells_of_heap Kt_15.out 3 (by simp)).1
        have ch0 := (cells_of_heap Kh_15.out 0 (by simp)).1
        have ch1 := (cells_of_heap Kh_15.out 1 (by simp)).1
        have ch2 := (cells_of_heap Kh_15.out 2 (by simp)).1
        have ch3 := (cells_of_heap Kh_15.out 3 (by simp)).1
        go_wp2_with fail
        refine (implIsTapHold_q 2 c 0 0 false HTT.out _).mono ?_
        rintro e w16 ⟨rfl, hb⟩
        clear ca0 ca1 ca2 ca3 cx0 cx1 cx2 cx3 cy0 cy1 cy2 cy3 ct0 ct1 ct2 ct3 ch0 ch1 ch2 ch3
        have HB16 := Lib.hid (HB15.out.trans (hb.mono HB15.out.size))
        have HS16 := Lib.hid hb.size
        have Ka_16 := Lib.hid (blk_below Ka_15.out hb)
        have Kx_16 := Lib.hid (blk_below Kx_15.out hb)
        have Ky_16 := Lib.hid (blk_below Ky_15.out hb)
        have Kt_16 := Lib.hid (blk_below Kt_15.out hb)
        have Kh_16 := Lib.hid (blk_below Kh_15.out hb)
        clear Ka_15 Kx_15 Ky_15 Kt_15 Kh_15
        clear hb
        have ca0 := (cells_of_heap Ka_16.out 0 (by simp)).1
        have ca1 := (cells_of_heap Ka_16.out 1 (by simp)).1
        have ca2 := (cells_of_heap Ka_16.out 2 (by simp)).1
        have ca3 := (cells_of_heap Ka_16.out 3 (by simp)).1
        have cx0 := (cells_of_heap Kx_16.out 0 (by simp)).1
        have cx1 := (cells_of_heap Kx_16.out 1 (by simp)).1
        have cx2 := (cells_of_heap Kx_16.out 2 (by simp)).1
        have cx3 := (cells_of_heap Kx_16.out 3 (by simp)).1
        have cy0 := (cells_of_heap Ky_16.out 0 (by simp)).1
        have cy1 := (cells_of_heap Ky_16.out 1 (by simp)).1
        have cy2 := (cells_of_heap Ky_16.out 2 (by simp)).1
        have cy3 := (cells_of_heap Ky_16.out 3 (by simp)).1
        have ct0 := (cells_of_heap Kt_16.out 0 (by simp)).1
        have ct1 := (cells_of_heap Kt_16.out 1 (by simp)).1
        have ct2 := (cells_of_heap Kt_16.out 2 (by simp)).1
        have ct3 := (cells_of_heap Kt_16.out 3 (by simp)).1
        have ch0 := (cells_of_heap Kh_16.out 0 (by simp)).1
        have ch1 := (cells_of_heap Kh_16.out 1 (by simp)).1
        have ch2 := (cells_of_heap Kh_16.out 2 (by simp)).1
        have ch3 := (cells_of_heap Kh_16.out 3 (by simp)).1
        go_wp2_with fail
        refine (implIsTapHold_q 3 0 0 n false HTH.out _).mono ?_
        rintro e w17 ⟨rfl, hb⟩
        clear ca0 ca1 ca2 ca3 cx0 cx1 cx2 cx3 cy0 cy1 cy2 cy3 ct0 ct1 ct2 ct3 ch0 ch1 ch2 ch3
        have HB17 := Lib.hid (HB16.out.trans (hb.mono HB16.out.size))
        have HS17 := Lib.hid hb.size
        have Ka_17 := Lib.hid (blk_below Ka_16.out hb)
        have Kx_17 := Lib.hid (blk_below Kx_16.out hb)
        have Ky_17 := Lib.hid (blk_below Ky_16.out hb)
        have Kt_17 := Lib.hid (blk_below Kt_16.out hb)
        have Kh_17 := Lib.hid (blk_below Kh_16.out hb)
        clear Ka_16 Kx_16 Ky_16 Kt_16 Kh_16
        clear hb
        go_upto_region 10 with (fail)
        have hba := (Array.getElem?_eq_some_iff.mp Ka_17.out).1
        have ca0 := Far.cell hba (cells_of_heap Ka_17.out 0 (by simp)).1
        have ca1 := Far.cell hba (cells_of_heap Ka_17.out 1 (by simp)).1
        have ca2 := Far.cell hba (cells_of_heap Ka_17.out 2 (by simp)).1
        have ca3 := Far.cell hba (cells_of_heap Ka_17.out 3 (by simp)).1
        simp only [List.getElem_toArray, List.getElem_cons_zero, List.getElem_cons_succ] at ca0 ca1 ca2 ca3
        have hbt := (Array.getElem?_eq_some_iff.mp Kt_17.out).1
        have ct0 := Far.cell hbt (cells_of_heap Kt_17.out 0 (by simp)).1
        have ct1 := Far.cell hbt (cells_of_heap Kt_17.out 1 (by simp)).1
        have ct2 := Far.cell hbt (cells_of_heap Kt_17.out 2 (by simp)).1
        have ct3 := Far.cell hbt (cells_of_heap Kt_17.out 3 (by simp)).1
        simp only [List.getElem_toArray, List.getElem_cons_zero, List.getElem_cons_succ] at ct0 ct1 ct2 ct3
        have hbh := (Array.getElem?_eq_some_iff.mp Kh_17.out).1
        have ch0 := Far.cell hbh (cells_of_heap Kh_17.out 0 (by simp)).1
        have ch1 := Far.cell hbh (cells_of_heap Kh_17.out 1 (by simp)).1
        have ch2 := Far.cell hbh (cells_of_heap Kh_17.out 2 (by simp)).1
        have ch3 := Far.cell hbh (cells_of_heap Kh_17.out 3 (by simp)).1
        simp only [List.getElem_toArray, List.getElem_cons_zero, List.getElem_cons_succ] at ch0 ch1 ch2 ch3
        have HTF := Lib.hid (HTB.out.below HB17.out)
        refine wp_region_far (by kernel_rfl) (by kernel_rfl) ?_
        repeat (go_big_quiet_step (first | (go_at_call 24; exact Far.call (implIsTapHold_q 7 c m n true HTA.out _)) | (go_at_call 26; exact Far.call (implCodeName_f c CN HCN.out _ (HTF.out.below (Far.low _)))) | (go_at_call 25; exact Far.call (implCodeOf_n CN CC HCC.out _ (HTF.out.below (Far.low _)))) | (go_at_call 28; exact Far.call (implFormatMods_f m MN HMN.out _)) | (go_at_call 27; exact Far.call (implParseMods_n MN MM HMM.out _))))
        refine wpQuiet_nil ?_
        intro _ hw'
        obtain ⟨xw, rfl⟩ := hw'
        go_wp2
        go_ret
        exact ⟨rfl, HB17.out.trans (xw.low.mono HB17.out.size)⟩

end Go.Proofs.YtleheibpgngmiaaDoor
