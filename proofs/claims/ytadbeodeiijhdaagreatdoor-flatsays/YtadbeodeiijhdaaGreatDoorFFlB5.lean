
import Derived.Test.YtadbeodeiijhdaaGreatDoorFFlB
import Derived.Test.YtadbeodeiijhdaaGreatDoorFMathFl
import Derived.Test.YtadbeodeiijhdaaGreatDoorFFlB2
/- flat: a node visited: another way. -/
namespace Go.Proofs.YtadbeodeiijhdaaGreatDoor
open Go.RowKit

set_option maxRecDepth 100000 in
set_option maxHeartbeats 4000000 in
theorem lvisit_list (W : World) (T : VT) (x y : Value) (b : Nat) (nv pv0 : Value) (now : List PStep) (E : List LE) (w : World) (hP : plainT T = true) (hT : HV W T x y) (hW : Lk W b nv pv0 now E w) (hn : now.length + szT T ≤ 2000000) (hE : E.length + szT T ≤ 2000000) (hsz0 : szT T ≤ 1000000) (HIH : Hid (∀ t, szT t < szT T → LVisitOk W t)) (hk5 : T.kd = 5) (hl0 : 0 < T.ls.length) :
    Calls Tryz.prog 32 #[.pointer (some ⟨b, 0, none⟩), vv T x y] w fun e w' => e = .returned (.tuple #[]) ∧ ∃ nv2 pv2 E2, Lk W b nv2 pv2 now E2 w' ∧ E2.map LE.pt = E.map LE.pt ++ lfT T now := by
  have HALL := hid (show lfT T now = lfL T.ls 0 now by rw [lfT_at, if_pos ⟨hk5, hl0⟩])
  have t5 : (T.kd == 5) = true := by simpa using hk5
  have hl1 : ((0 : Int) < (T.ls.length : Int)) := by omega
  clear hk5
  obtain ⟨al, bl, f, g, p, q, oL, oM, cL, cM, rfl, rfl, -, -, hL3, hM3, hK, -, hlL, hlM, kL, kK, kM, rL, rM, -, -⟩ := hT.parts
  obtain ⟨⟨on, cn, rfl⟩, ⟨op, cp, rfl⟩⟩ := hW.slices
  have HW := hid (fun X (hX : Below w.heap.size w X) => hW.onto hX)
  have hltb := hW.lt
  have HkL := hid kL; have HkK := hid kK; have HkM := hid kM; have HrL := hid rL; have HrM := hid rM; have HKL := hid hK
  have HPT := hid hP
  have hsz := szT_at T
  have hlen := len_sz T
  obtain rfl := hL3 hl0
  clear hL3 hM3 hT hW kL kK kM rL rM hK hP
  simp only [vv]
  go_enter Tryz.func32, Tryz.ntmps32
  go_wp2_with fail
  have hb0 : Below w.heap.size w (w.alloc (.cells #[.int .i64 T.kd, .int .i64 T.nm, .string T.st, .slice (some al) T.ls.length cL, .slice oM T.vs.length cM] 26)) := valloc_bel (Below.refl _ _) _
  have HD := hid (HW.out _ hb0)
  go_loopw [38] (fun i wr => ∃ (j : Nat) (nv2 pv2 : Value) (E2 : List LE), i = .int .i64 j ∧ j ≤ T.ls.length ∧ Hid (Lk W b nv2 pv2 now E2 wr) ∧ Hid (E2.map LE.pt = E.map LE.pt ++ lfL (T.ls.take j) 0 now)) (fun i _ => T.ls.length - (intOf i).toNat)
  case atStart => exact ⟨0, _, _, E, rfl, Nat.zero_le _, HD.out, hid (by simp [lfL])⟩
  case round =>
    obtain ⟨j, nv2, pv2, E2, rfl, hj, HK2, HE2⟩ := hrel
    by_cases hlt : j < T.ls.length
    · obtain ⟨t, ht⟩ : ∃ t, T.ls[j]? = some t := ⟨T.ls[j], List.getElem?_eq_getElem hlt⟩
      obtain ⟨d0, d1, d2, d3, d4⟩ := (HkL.out j t ht).onto HK2.out.bel
      obtain ⟨o1, n1, c1, o2, n2, c2, hf, hg⟩ := hv_slices (HrL.out j t ht)
      rw [hf] at d3
      rw [hg] at d4
      have hsm := szT_ls T j t ht
      have hE2 := map_len HE2.out
      simp only [List.length_append, List.length_map] at hE2
      have ha1 := lfL_len (T.ls.take j) 0 now
      have ha2 := szL_take_succ T.ls j t ht
      have ha3 := szL_take_le T.ls (j + 1)
      have C := hid (fun (X : World) (hX : Below wr.heap.size wr X) => lenter_any W t (HIH.out t hsm) (lpl j) _ _ b nv2 pv2 now E2 X (plain_ls HPT.out ht) (HrL.out j t ht) (HK2.out.onto hX) (by omega) (by omega))
      rw [hf, hg] at C
      simp only [vv, pv, lpl] at C
      have HSN := hid (show lfL (T.ls.take (j + 1)) 0 now = lfL (T.ls.take j) 0 now ++ lfT t (now ++ [lpl j]) by
        rw [List.take_add_one, ht]
        show lfL (T.ls.take j ++ [t]) 0 now = _
        rw [lfL_snoc, List.length_take, Nat.min_eq_left hj, Nat.zero_add])
      clear ht hf hg hE2 ha1 ha2 ha3 hsm
      go_wp2_with fail
      go_at_call 62
      refine (C.out _ (valloc_bel (Below.refl _ _) _)).mono ?_
      rintro e w2 ⟨rfl, nv3, pv3, E3, hk3, he3⟩
      have HK3 := hid hk3
      have HE3 := hid he3
      clear hk3 he3 C
      go_wp2_with fail
      go_roundw
      case rel => exact ⟨j + 1, nv3, pv3, E3, val_int (by omega), hlt, HK3.out, hid (by rw [HSN.out, HE3.out, HE2.out]; simp [lpl])⟩
      case measure => simp [intOf]; omega
    · have htk : T.ls.take j = T.ls := List.take_of_length_le (by omega)
      rw [htk] at HE2
      clear htk
      go_wp2_with fail
      refine bodyPost_end (v := .tuple #[]) (by simp [results, Tryz.results32, go_sem]) rfl ?_
      exact ⟨rfl, _, _, E2, HK2.out, by rw [HE2.out, HALL.out]⟩
end Go.Proofs.YtadbeodeiijhdaaGreatDoor
/- flat: a node visited: another way. -/
namespace Go.Proofs.YtadbeodeiijhdaaGreatDoor
open Go.RowKit

set_option maxRecDepth 100000 in
set_option maxHeartbeats 4000000 in
theorem lvisit_map (W : World) (T : VT) (x y : Value) (b : Nat) (nv pv0 : Value) (now : List PStep) (E : List LE) (w : World) (hP : plainT T = true) (hT : HV W T x y) (hW : Lk W b nv pv0 now E w) (hn : now.length + szT T ≤ 2000000) (hE : E.length + szT T ≤ 2000000) (hsz0 : szT T ≤ 1000000) (HIH : Hid (∀ t, szT t < szT T → LVisitOk W t)) (hk6 : T.kd = 6) (hl0 : 0 < T.vs.length) :
    Calls Tryz.prog 32 #[.pointer (some ⟨b, 0, none⟩), vv T x y] w fun e w' => e = .returned (.tuple #[]) ∧ ∃ nv2 pv2 E2, Lk W b nv2 pv2 now E2 w' ∧ E2.map LE.pt = E.map LE.pt ++ lfT T now := by
  have HALL := hid (show lfT T now = lfM T.vs T.ks now by rw [lfT_at, if_neg (by omega), if_pos ⟨hk6, hl0⟩])
  have t5 : (T.kd == 5) = false := by simp; omega
  have t6 : (T.kd == 6) = true := by simpa using hk6
  have hl1 : ((0 : Int) < (T.vs.length : Int)) := by omega
  clear hk6
  obtain ⟨al, bl, f, g, p, q, oL, oM, cL, cM, rfl, rfl, -, -, hL3, hM3, hK, -, hlL, hlM, kL, kK, kM, rL, rM, -, -⟩ := hT.parts
  obtain ⟨⟨on, cn, rfl⟩, ⟨op, cp, rfl⟩⟩ := hW.slices
  have HW := hid (fun X (hX : Below w.heap.size w X) => hW.onto hX)
  have hltb := hW.lt
  have HkL := hid kL; have HkK := hid kK; have HkM := hid kM; have HrL := hid rL; have HrM := hid rM; have HKL := hid hK
  have HPT := hid hP
  have hsz := szT_at T
  have hlen := len_sz T
  obtain rfl := hM3 hl0
  clear hL3 hM3 hT hW kL kK kM rL rM hK hP
  simp only [vv]
  go_enter Tryz.func32, Tryz.ntmps32
  go_wp2_with fail
  have hb0 : Below w.heap.size w (w.alloc (.cells #[.int .i64 T.kd, .int .i64 T.nm, .string T.st, .slice oL T.ls.length cL, .slice (some bl) T.vs.length cM] 26)) := valloc_bel (Below.refl _ _) _
  have HD := hid (HW.out _ hb0)
  go_loopw [62] (fun i wr => ∃ (j : Nat) (nv2 pv2 : Value) (E2 : List LE), i = .int .i64 j ∧ j ≤ T.vs.length ∧ Hid (Lk W b nv2 pv2 now E2 wr) ∧ Hid (E2.map LE.pt = E.map LE.pt ++ lfM (T.vs.take j) T.ks now)) (fun i _ => T.vs.length - (intOf i).toNat)
  case atStart => exact ⟨0, _, _, E, rfl, Nat.zero_le _, HD.out, hid (by simp [lfM])⟩
  case round =>
    obtain ⟨j, nv2, pv2, E2, rfl, hj, HK2, HE2⟩ := hrel
    by_cases hlt : j < T.vs.length
    · obtain ⟨t, ht⟩ : ∃ t, T.vs[j]? = some t := ⟨T.vs[j], List.getElem?_eq_getElem hlt⟩
      obtain ⟨key, hkey⟩ : ∃ c, T.ks[j]? = some c := ⟨T.ks[j]'(by have := HKL.out; omega), List.getElem?_eq_getElem _⟩
      obtain ⟨d0, d1, d2, d3, d4⟩ := (HkM.out j t ht).onto HK2.out.bel
      have dk := keepCell HK2.out.bel (HkK.out j key hkey).1
      obtain ⟨o1, n1, c1, o2, n2, c2, hf, hg⟩ := hv_slices (HrM.out j t ht)
      rw [hf] at d3
      rw [hg] at d4
      simp only [nx] at d0 d1 d2 d3 d4
      have hsm := szT_vs T j t ht
      have hE2 := map_len HE2.out
      simp only [List.length_append, List.length_map] at hE2
      have ha1 := lfM_len (T.vs.take j) T.ks now
      have ha2 := szL_take_succ T.vs j t ht
      have ha3 := szL_take_le T.vs (j + 1)
      have C := hid (fun (X : World) (hX : Below wr.heap.size wr X) => lenter_any W t (HIH.out t hsm) (lky key) _ _ b nv2 pv2 now E2 X (plain_vs HPT.out ht) (HrM.out j t ht) (HK2.out.onto hX) (by omega) (by omega))
      rw [hf, hg] at C
      simp only [vv, pv, lky] at C
      have HSN := hid (show lfM (T.vs.take (j + 1)) T.ks now = lfM (T.vs.take j) T.ks now ++ lfT t (now ++ [lky key]) by
        rw [List.take_add_one, ht]
        show lfM (T.vs.take j ++ [t]) T.ks now = _
        rw [lfM_snoc t now _ _ key (by rw [List.length_take, Nat.min_eq_left hj]; exact hkey)])
      clear ht hf hg hE2 ha1 ha2 ha3 hsm hkey
      go_wp2_with fail
      go_at_call 62
      refine (C.out _ (valloc_bel (Below.refl _ _) _)).mono ?_
      rintro e w2 ⟨rfl, nv3, pv3, E3, hk3, he3⟩
      have HK3 := hid hk3
      have HE3 := hid he3
      clear hk3 he3 C
      go_wp2_with fail
      go_roundw
      case rel => exact ⟨j + 1, nv3, pv3, E3, val_int (by omega), hlt, HK3.out, hid (by rw [HSN.out, HE3.out, HE2.out]; simp [lky])⟩
      case measure => simp [intOf]; omega
    · have htk : T.vs.take j = T.vs := List.take_of_length_le (by omega)
      rw [htk] at HE2
      clear htk
      go_wp2_with fail
      refine bodyPost_end (v := .tuple #[]) (by simp [results, Tryz.results32, go_sem]) rfl ?_
      exact ⟨rfl, _, _, E2, HK2.out, by rw [HE2.out, HALL.out]⟩
end Go.Proofs.YtadbeodeiijhdaaGreatDoor
/- flat: a node visited, every way; Leaves. -/
namespace Go.Proofs.YtadbeodeiijhdaaGreatDoor
open Go.RowKit

theorem lvisit_any (W : World) : ∀ (N : Nat) (T : VT), szT T ≤ N → szT T ≤ 1000000 → LVisitOk W T := by
  intro N
  induction N with
  | zero => intro T h; have := szT_pos T; omega
  | succ N ih =>
  intro T hN hm hP x y b nv pv0 now E w hT hW hn hE
  have HIH : Hid (∀ t, szT t < szT T → LVisitOk W t) := hid (fun t ht => ih t (by omega) (by omega))
  by_cases h5 : T.kd = 5
  · by_cases hl : 0 < T.ls.length
    · exact lvisit_list W T x y b nv pv0 now E w hP hT hW hn hE hm HIH h5 hl
    · exact lvisit_leaf5 W T x y b nv pv0 now E w hP hT hW hn hE hm h5 (by omega)
  · by_cases h6 : T.kd = 6
    · by_cases hl : 0 < T.vs.length
      · exact lvisit_map W T x y b nv pv0 now E w hP hT hW hn hE hm HIH h6 hl
      · exact lvisit_leaf6 W T x y b nv pv0 now E w hP hT hW hn hE hm h6 (by omega)
    · exact lvisit_leafo W T x y b nv pv0 now E w hP hT hW hn hE hm h5 h6
set_option maxRecDepth 100000 in
set_option maxHeartbeats 1000000 in
theorem leaves_any (T : VT) (x y : Value) (w : World) (hT : HV w T x y) (hP : plainT T = true) (hm : szT T ≤ 1000000) :
    Calls Tryz.prog 13 #[vv T x y] w fun e w' => ∃ v E, e = .returned v ∧ OwnF w w' v E ∧ (∀ e ∈ E, OwnS w w' e.u e.p ∧ Bare e) ∧ E.map LE.pt = lfT T [] ∧ Below w.heap.size w w' := by
  obtain ⟨o1, n1, c1, o2, n2, c2, rfl, rfl⟩ := hv_slices hT
  have HN := hid (lk_new w (.cells #[.int .i64 T.kd, .int .i64 T.nm, .string T.st, .slice o1 n1 c1, .slice o2 n2 c2] 26))
  have HC := hid (lvisit_any w (szT T) T (Nat.le_refl _) hm hP _ _ _ _ _ _ _ _ hT HN.out (by simp; omega) (by simp; omega))
  simp only [vv] at HC ⊢
  clear hT
  go_enter Tryz.func13, Tryz.ntmps13
  go_wp2_with fail
  go_at_call 32
  refine HC.out.mono ?_
  rintro e w1 ⟨rfl, nv2, pv2, E2, hk, he⟩
  obtain ⟨q0, q1, -⟩ := hk.cells
  obtain ⟨⟨oa, ca, rfl⟩, ⟨ob, cb, rfl⟩⟩ := hk.slices
  have HK := hid hk
  have HE := hid he
  clear hk he HC HN
  go_wp2_with fail
  go_ret
  exact ⟨_, E2, rfl, HK.out.ps, fun e he => ⟨(HK.out.es e he).1, HK.out.bs e he⟩, by rw [HE.out]; rfl, HK.out.bel⟩
end Go.Proofs.YtadbeodeiijhdaaGreatDoor
