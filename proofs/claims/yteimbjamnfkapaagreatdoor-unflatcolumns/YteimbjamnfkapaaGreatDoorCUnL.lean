import Derived.Test.YteimbjamnfkapaaGreatDoorCUnJ
import Derived.Test.YteimbjamnfkapaaGreatDoorCVSize
/- unflat's Unflat, walked. -/
namespace Go.Proofs.YteimbjamnfkapaaGreatDoor
open Go.RowKit Go.Maps
inductive UP (K : List ByteArray) (Rs : List (List ByteArray)) : Int → Nat → Nat → VT → Prop
 | col (k : Int) (i : Nat) (C : List (List PStep)) (h : CP K k i C) (hk : k ≠ 0) : UP K Rs k 0 i zeroT
 | row (C : List (List PStep)) (i : Nat) (R : List ByteArray) (h : CP K 0 0 C) (h1 : Rs[i]? = some R) (h2 : R.length ≠ K.length) (h3 : ∀ (k : Nat) (R' : List ByteArray), k < i → Rs[k]? = some R' → R'.length = K.length) : UP K Rs 7 (i + 1) 0 zeroT
 | none (C : List (List PStep)) (h : CP K 0 0 C) (h1 : Rs = []) : UP K Rs 1 0 0 zeroT
 | bad (C : List (List PStep)) (i : Nat) (R : List ByteArray) (k : Int) (c : Nat) (T : VT) (h : CP K 0 0 C) (hl : ∀ R ∈ Rs, R.length = K.length) (h1 : Rs[i]? = some R) (h2 : MP C R k c T) (hk : k ≠ 0) (h3 : ∀ (j : Nat) (R' : List ByteArray), j < i → Rs[j]? = some R' → ∃ T, MP C R' 0 0 T) : UP K Rs k (i + 1) c zeroT
 | great (C : List (List PStep)) (Ts : List VT) (h : CP K 0 0 C) (hl : ∀ R ∈ Rs, R.length = K.length) (hn : Rs ≠ []) (ht : Ts.length = Rs.length) (h1 : ∀ (i : Nat) (R : List ByteArray), Rs[i]? = some R → ∃ T, Ts[i]? = some T ∧ MP C R 0 0 T) (h2 : mayB 0 1 (.mk 5 0 ⟨#[]⟩ Ts [] []) = false) : UP K Rs 2 0 0 zeroT
 | ok (C : List (List PStep)) (Ts : List VT) (h : CP K 0 0 C) (hl : ∀ R ∈ Rs, R.length = K.length) (hn : Rs ≠ []) (ht : Ts.length = Rs.length) (h1 : ∀ (i : Nat) (R : List ByteArray), Rs[i]? = some R → ∃ T, Ts[i]? = some T ∧ MP C R 0 0 T) (h2 : mayB 0 1 (.mk 5 0 ⟨#[]⟩ Ts [] []) = true) : UP K Rs 0 0 0 (.mk 5 0 ⟨#[]⟩ Ts [] [])
def UnP (K : List ByteArray) (Rs : List (List ByteArray)) (w : World) (e : Ending) (w' : World) : Prop := ∃ T x y k r c, e = .returned (.tuple #[vv T x y, .int .i64 k, .int .i64 ((r : Nat) : Int), .int .i64 ((c : Nat) : Int)]) ∧ UP K Rs k r c T ∧ HV w' T x y ∧ Below w.heap.size w w'
theorem szL_snoc : ∀ (L : List VT) (t : VT), szL (L ++ [t]) = szL L + szT t
 | [], t => by simp [szL]
 | a :: L, t => by rw [List.cons_append]; simp only [szL]; rw [szL_snoc L t]; omega
theorem MP.small {C : List (List PStep)} {R : List ByteArray} {T : VT} (h : MP C R 0 0 T) : szT T ≤ 4096 ∧ mayB 0 1 T = true := by
 generalize hk : (0 : Int) = k at h
 generalize hc : (0 : Nat) = c at h
 cases h with
 | bad i h1 h2 => exact absurd hk.symm h2
 | none _ _ => cases hk
 | fault k i T c h1 h2 h3 h4 h5 => exact absurd hk.symm h4
 | nomap T _ _ _ _ => cases hk
 | ok T h1 h2 h3 h4 =>
  generalize hk2 : (0 : Int) = k2 at h3
  cases h3 with
  | none h => exact absurd h h2
  | bad i h1 h2 => exact absurd hk2.symm h2
  | gap i _ _ _ _ => cases hk2
  | great _ _ _ _ => cases hk2
  | ok _ _ _ _ _ h5 =>
   have := (good_sz h5).1
   exact ⟨by omega, h5⟩
theorem MP.zero {C : List (List PStep)} {R : List ByteArray} {i : Nat} {T : VT} (h : MP C R 0 i T) : i = 0 := by
 generalize hk : (0 : Int) = k at h
 cases h with
 | bad i h1 h2 => exact absurd hk.symm h2
 | none _ _ => cases hk
 | fault k i T c h1 h2 h3 h4 h5 => exact absurd hk.symm h4
 | nomap T _ _ _ _ => cases hk
 | ok T h1 h2 h3 h4 => rfl
theorem one1_any (n : Nat) (R : List ByteArray) (u : Value) (W : World) (hR : InS W R u) (b : Nat) (o : Option Addr) (cn : Nat) (hb : W.cell? ⟨b, 0, none⟩ = some (.slice o n cn)) :
  Calls Tryz.prog 40 #[u, .pointer (some ⟨b, 0, none⟩)] W fun e w' => e = .returned (.bool (decide (R.length ≠ n))) ∧ Below W.heap.size W w' := by
 obtain ⟨a, ⟨o1, c1, rfl, h1, h2, -⟩, -⟩ := hR
 unfold maxLen at h2
 by_cases h : R.length = n
 ·have ht : ((R.length : Int) != (n : Int)) = false := by simp [h]
  have hd : decide (R.length ≠ n) = false := by simpa using h
  rw [hd]
  have HH := hid h
  clear h hd
  go_enter Tryz.func40, Tryz.ntmps40
  go_wp2_with fail
  go_ret
  exact ⟨rfl, Below.refl _ _⟩
 ·have ht : ((R.length : Int) != (n : Int)) = true := bne_iff_ne.2 (by omega)
  have hd : decide (R.length ≠ n) = true := by simpa using h
  rw [hd]
  have HH := hid h
  clear h hd
  go_enter Tryz.func40, Tryz.ntmps40
  go_wp2_with fail
  go_ret
  exact ⟨rfl, Below.refl _ _⟩
def OddP (n : Nat) (Rs : List (List ByteArray)) (w : World) (e : Ending) (w' : World) : Prop := Below w.heap.size w w' ∧ ((∃ (i : Nat) (R : List ByteArray), Rs[i]? = some R ∧ R.length ≠ n ∧ (∀ (k : Nat) (R' : List ByteArray), k < i → Rs[k]? = some R' → R'.length = n) ∧ e = .returned (.int .i64 (i : Int))) ∨ ((∀ R ∈ Rs, R.length = n) ∧ e = .returned (.int .i64 (-1))))
set_option maxRecDepth 100000 in
set_option maxHeartbeats 2000000 in
theorem uidx_any (G : Nat) (lb : Array Value) (eg : ∀ args w, (callFunc G args).run Tryz.prog w = .ok (.enter G args) w) (n : Nat) (Rs : List (List ByteArray)) (v : Value) (w : World) (hR : InRs w Rs v)
  (hG : ∀ (W : World) (R : List ByteArray) (u : Value), InS W R u → Below w.heap.size w W → Calls Tryz.prog G (#[u] ++ lb) W fun e w' => e = .returned (.bool (decide (R.length ≠ n))) ∧ Below W.heap.size W w') :
  Calls Tryz.prog 39 #[v, .func (.func G) #[] lb] w (OddP n Rs w) := by
 obtain ⟨a, ⟨ov, cap, rfl, h1, h2, h3⟩, hk⟩ := hR
 unfold maxLen at h2
 have HK := hid hk
 have H3 := hid h3
 have HGG := hid hG
 obtain ⟨m, hm⟩ : ∃ m, Rs.length = m := ⟨_, rfl⟩
 rw [hm] at h1 h3 ⊢
 have HM := hid hm
 clear hk hG h3 hm
 go_enter Tryz.func39, Tryz.ntmps39
 go_wp2_with fail
 go_loopw [8] (fun x wr => ∃ j : Nat, x = .int .i64 j ∧ j ≤ m ∧ Hid (∀ (k : Nat) (R' : List ByteArray), k < j → Rs[k]? = some R' → R'.length = n) ∧ Hid (Below w.heap.size w wr)) (fun x _ => m - (intOf x).toNat)
 case atStart => exact ⟨0, rfl, Nat.zero_le _, hid (fun k R h => absurd h (Nat.not_lt_zero k)), hid (Below.refl _ _)⟩
 case round =>
  obtain ⟨j, rfl, hj, HJ, HB⟩ := hrel
  by_cases hlt : j < m
  ·obtain ⟨R, hR⟩ : ∃ R, Rs[j]? = some R := ⟨Rs[j]'(by rw [HM.out]; exact hlt), List.getElem?_eq_getElem _⟩
   obtain rfl := H3.out (by rw [HM.out]; omega)
   obtain ⟨u, hu, hin⟩ := HK.out j R hR
   have k0 := keepCell HB.out hu
   have HSN := hid (HGG.out wr R u (hin.onto HB.out) HB.out)
   obtain ⟨au, ⟨ou, cu, rfl, -⟩, -⟩ := hin
   have HRR := hid hR
   clear hR hu
   by_cases hne : R.length = n
   ·rw [show decide (R.length ≠ n) = false by simpa using hne] at HSN
    have HJ2 := hid (show ∀ (k : Nat) (R' : List ByteArray), k < j + 1 → Rs[k]? = some R' → R'.length = n from fun k R' hk hR' => by
     by_cases e : k = j
     ·subst e; rw [HRR.out] at hR'; cases hR'; exact hne
     ·exact HJ.out k R' (by omega) hR')
    have HNE := hid hne
    clear hne
    go_wp2_with (go_at_fn G; go_must (refine HSN.out.mono ?_; rintro e w1 ⟨rfl, hb1⟩))
    go_roundw
    case rel => exact ⟨j + 1, val_int (by omega), hlt, HJ2, hid (vonto HB.out hb1)⟩
    case measure => simp [intOf]; omega
   ·rw [show decide (R.length ≠ n) = true by simpa using hne] at HSN
    have HNE := hid hne
    clear hne
    go_wp2_with (go_at_fn G; go_must (refine HSN.out.mono ?_; rintro e w1 ⟨rfl, hb1⟩))
    go_ret
    exact ⟨vonto HB.out hb1, .inl ⟨j, R, HRR.out, HNE.out, HJ.out, rfl⟩⟩
  ·have HALL := hid (show ∀ R ∈ Rs, R.length = n from fun R hR => by
    obtain ⟨i, hi⟩ := List.getElem?_of_mem hR
    exact HJ.out i R (by have := lt_of_some hi; have := HM.out; omega) hi)
   go_wp2_with fail
   go_ret
   exact ⟨HB.out, .inr ⟨HALL.out, rfl⟩⟩
theorem catV (base : Nat) (X : World) (v : Value) (E : List (VT × Value × Value)) (n : Nat) (hn : E.length = n) (hown : X.ownsRow base 29 5 v n (E.flatMap vc)) (nb : Nat) (a : VT × Value × Value) (h1 : a.2.1.oneCell' = true) (h2 : a.2.2.oneCell' = true) (hc : ∀ (i : Nat) (u : Value), (vc a)[i]? = some u → X.cell? ⟨nb, i, none⟩ = some u) (hb : base ≤ X.heap.size) (hl : n ≤ 100000) :
  ∃ g cap Y, (Builtin.append_ #[26, 26] 26 #[v, .slice (some ⟨nb, 0, none⟩) 1 1]).run Tryz.prog X = .ok (.slice (some ⟨g, 0, none⟩) (n + 1) cap) Y ∧ Y.ownsRow base 29 5 (.slice (some ⟨g, 0, none⟩) (n + 1) cap) (n + 1) (E.flatMap vc ++ vc a) ∧ X.grownBy Y v.ownBlock ∧ (v.ownBlock = some g ∨ g = X.heap.size) := by
 obtain ⟨i1, hi', hz0', hz1', hz2'⟩ := info_parts Tryz.infoVal
 obtain ⟨g, cp, Y, hr, h2, h3, h4, h5⟩ := run_append_lies (P := Tryz.prog) X 26 26 base 29 i1 (.agg #[.int .i64 0, .int .i64 0, .string ⟨#[]⟩, .slice none 0 0, .slice none 0 0]) 5 80 Tryz.underlying26 hi' hz0' hz1' hz2' rfl (by decide) v n _ hown ⟨nb, 0, none⟩ 1 1 (vc a) rfl (fun j u hj => by
  rw [add_at]; exact hc j u hj) (fun u hu => by
  simp only [vc, List.mem_cons, List.not_mem_nil, or_false] at hu
  rcases hu with rfl | rfl | rfl | rfl | rfl
  ·rfl
  ·rfl
  ·rfl
  ·exact h1
  ·exact h2) (by decide) (by unfold maxLen; omega) (by omega) hb X.heap.size rfl
 exact ⟨g, cp, Y, hr, h2, h3, h4⟩
end Go.Proofs.YteimbjamnfkapaaGreatDoor
/- unflat's Unflat, walked. -/
namespace Go.Proofs.YteimbjamnfkapaaGreatDoor
open Go.RowKit Go.Maps
def farOf (lb : Nat) (wr : World) (v : Value) : Nat → Prop := fun k => lb < k ∧ k < wr.heap.size ∧ v.ownBlock ≠ some k
theorem CP.cols {K : List ByteArray} {k : Int} {i : Nat} {C : List (List PStep)} (h : CP K k i C) : k = 0 → i = 0 ∧ C.length = K.length ∧ ∀ p ∈ C, ∃ c ∈ K, prsN c = some p := by
 intro hk
 cases h with
 | bad i h1 h2 h3 => exact absurd hk h2
 | ok C h1 h2 =>
  refine ⟨rfl, by have := congrArg List.length h2; simpa using this.symm, fun p hp => ?_⟩
  have : some p ∈ C.map some := List.mem_map.2 ⟨p, hp, rfl⟩
  rw [← h2] at this
  obtain ⟨c, hc, e⟩ := List.mem_map.1 this
  exact ⟨c, hc, e⟩
theorem prs_cn {c : ByteArray} {p : List PStep} (h : prsN c = some p) : AllCn p := fun s hs => Cn.of ((parse_sound h).2 s hs)
theorem row_hv {wr : World} {base : Nat} {v : Value} {E : List (VT × Value × Value)} (h : wr.ownsRow base 29 5 v E.length (E.flatMap vc)) (hE : ∀ e ∈ E, HV wr e.1 e.2.1 e.2.2) : HV wr (.mk 5 0 ⟨#[]⟩ (E.map (·.1)) [] []) v (.slice none 0 0) := by
 have hc := h
 rcases hc with ⟨-, ⟨rfl, h0⟩ | ⟨g, cap, cur, rfl, -, -, hn, hcm, -, -⟩⟩
 ·have : E = [] := List.eq_nil_of_length_eq_zero h0
  subst this
  exact hv_leaf wr 5 0 _ (by decide) (by decide) (by decide)
 have key : ∀ (i : Nat) (e : VT × Value × Value), E[i]? = some e → ∀ (c : Nat) (u : Value), (vc e)[c]? = some u → wr.cell? ⟨g, i * 5 + c, none⟩ = some u := by
  intro i e he c u hu
  have hi := lt_of_some he
  have hc : c < 5 := lt_of_some hu
  rw [h.cellAt (i * 5 + c) (by omega), flat_at vc 5 (fun _ => rfl) E i c e he hc]
  exact hu
 refine hv_in (by decide) (by decide) (by decide) ⟨⟨g, 0, none⟩, fun i => ((E[i]?).map (·.2.1)).getD (.slice none 0 0), fun i => ((E[i]?).map (·.2.2)).getD (.slice none 0 0), ⟨_, cap, by rw [List.length_map], by simpa using hn, hcm, fun _ => rfl⟩, fun i t ht => ?_, fun i t ht => ?_⟩ (mf_nil wr 0 0).inM
 ·rw [List.getElem?_map] at ht
  obtain ⟨e, he, rfl⟩ := Option.map_eq_some_iff.1 ht
  rw [add_at]
  simp only [he, Option.map_some, Option.getD_some]
  exact ⟨key i e he 0 _ rfl, key i e he 1 _ rfl, key i e he 2 _ rfl, key i e he 3 _ rfl, key i e he 4 _ rfl⟩
 ·rw [List.getElem?_map] at ht
  obtain ⟨e, he, rfl⟩ := Option.map_eq_some_iff.1 ht
  simp only [he, Option.map_some, Option.getD_some]
  exact hE e (List.mem_of_getElem? he)
set_option maxRecDepth 100000 in
set_option maxHeartbeats 3000000 in
theorem unflat_any (K : List ByteArray) (Rs : List (List ByteArray)) (kv rv : Value) (w : World) (hK : InS w K kv) (hR : InRs w Rs rv) (hg : GlobF w) (hkn : K.length ≤ 1000) (hks : ∀ c ∈ K, c.size ≤ 10000) (hrn : Rs.length ≤ 1000) (hrs : ∀ R ∈ Rs, ∀ c ∈ R, c.size ≤ 1000000) (hcp : ∀ c ∈ K, ∀ p, prsN c = some p → p.length ≤ 1000 ∧ ∀ s ∈ p, OkS s) :
  Calls Tryz.prog 14 #[.agg #[kv, rv]] w (UnP K Rs w) := by
 have HK := hid hK
 have HR := hid hR
 have HG := hid hg
 have HCP := hid hcp
 have HRS := hid hrs
 have HKS := hid hks
 obtain ⟨ok, ck, rfl⟩ := hK.sl
 obtain ⟨orr, crr, rfl⟩ := hR.sl
 obtain ⟨ar, hslr, hcr⟩ := hR
 obtain ⟨or2, cr2, er, hr1, hr2, hr3⟩ := hslr
 injection er with er1 er2 er3
 subst er1 er3
 unfold maxLen at hr2
 have HCR := hid hcr
 have HR3 := hid hr3
 obtain ⟨n, hn⟩ : ∃ n, K.length = n := ⟨_, rfl⟩
 obtain ⟨m, hm⟩ : ∃ m, Rs.length = m := ⟨_, rfl⟩
 have HN := hid hn
 have HM := hid hm
 rw [hn] at hkn ⊢
 rw [hm] at hrn hr1 ⊢
 clear hK hg hcp hrs hks hcr hr3 er2 hn hm
 go_enter Tryz.func14, Tryz.ntmps14
 go_upto_region 1 with fail
 refine cewp_gen ?_
 intro W hW
 have hbW : Below w.heap.size w W := by rw [hW]; exact valloc_bel (valloc_bel (Below.refl _ _) _) _
 have t0 : W.cell? ⟨w.heap.size, 0, none⟩ = some (.slice ok n ck) := by rw [hW]; simp
 have t1 : W.cell? ⟨w.heap.size, 1, none⟩ = some (.slice orr m crr) := by rw [hW]; simp
 have R0 : Hid (Row W (w.heap.size + 1) 29 5) := hid (by
  rw [hW]
  have := Row.new (w.alloc (.cells #[.slice ok n ck, .slice orr m crr] 34)) #[.int .i64 0, .int .i64 0, .string ⟨#[]⟩, .slice none 0 0, .slice none 0 0] 29
  rwa [World.size_alloc] at this)
 have HBW := hid hbW
 have CC := hid (ucol_any K (.slice ok n ck) W (by have := HK.out.onto hbW; rwa [HN.out] at this) (HG.out.2.on hbW) (by rw [HN.out]; omega) HKS.out)
 clear hW hbW
 go_wp2_with fail
 go_at_call 38
 refine CC.out.mono ?_
 rintro e w1 ⟨v1, k, i, C, rfl, hcp, hinc, hb1⟩
 have t0 := keepCell hb1 t0
 have t1 := keepCell hb1 t1
 have HCPP := hid hcp
 have HINC := hid hinc
 have R1 := hid (R0.out.onto (hb1.block _ R0.out.lt))
 have HB1 := hid (vonto HBW.out hb1)
 obtain ⟨acv, ⟨ocv, ccv, hcv, -⟩, -⟩ := hinc
 subst hcv
 clear hcp hb1 CC R0
 obtain ⟨nc, hnc⟩ : ∃ nc, C.length = nc := ⟨_, rfl⟩
 rw [hnc]
 have HNC := hid hnc
 clear hnc
 go_upto_region 2 with fail
 refine cewp_gen ?_
 intro W2 hW
 obtain ⟨b0, hb2⟩ := pbox_of hW
 have t0 := keepCell hb2 t0
 have t1 := keepCell hb2 t1
 have HINC2 := hid (HINC.out.onto hb2)
 have R2 := hid (R1.out.onto (hb2.block _ R1.out.lt))
 have HB2 := hid (vonto HB1.out hb2)
 clear hW hb2 HINC R1
 by_cases hk0 : k = 0
 case neg =>
  have HUP := hid (show UP K Rs k 0 i zeroT from .col k i C HCPP.out hk0)
  have tk : (k != 0) = true := by simpa using hk0
  have HB9 := HB2
  have R9 := R2
  clear hk0
  obtain ⟨u0, e0⟩ := R9.out.cell (o := 0) (by decide)
  obtain ⟨u1, e1⟩ := R9.out.cell (o := 1) (by decide)
  obtain ⟨u2, e2⟩ := R9.out.cell (o := 2) (by decide)
  obtain ⟨u3, e3⟩ := R9.out.cell (o := 3) (by decide)
  obtain ⟨u4, e4⟩ := R9.out.cell (o := 4) (by decide)
  have z0 := R9.out.frozen
  go_wp2_with fail
  refine bodyPost_ret (v := .tuple #[vv zeroT (.slice none 0 0) (.slice none 0 0), .int .i64 k, .int .i64 ((0 : Nat) : Int), .int .i64 ((i : Nat) : Int)]) (by simp [results, Tryz.results14, go_sem, vv, zeroT, VT.kd, VT.nm, VT.st, e0, e1, e2, e3, e4]) rfl ?_
  exact ⟨zeroT, _, _, _, _, _, rfl, HUP.out, hv_zero _, put5_bel HB9.out (Nat.le_succ _)⟩
 have tk : (k != 0) = false := by simpa using hk0
 subst hk0
 obtain ⟨hi0, hcl, hcm⟩ := HCPP.out.cols rfl
 subst hi0
 have hncn : nc = n := by have := HNC.out; have := HN.out; omega
 subst hncn
 have HCM := hid hcm
 have HCL := hid hcl
 clear hcm hcl
 have CI := hid (uidx_any 40 #[.pointer (some ⟨w1.heap.size, 0, none⟩)] (enters_of Tryz.func40 (by kernel_rfl) rfl) nc Rs (.slice orr m crr) W2 (by have := HR.out.onto HB2.out; rwa [HM.out] at this) (fun X R u hu hX => one1_any nc R u X hu w1.heap.size ocv ccv (keepCell hX b0)))
 go_wp2_with fail
 go_at_call 39
 refine CI.out.mono ?_
 rintro e w3 ⟨hb3, hres⟩
 have b0 := keepCell hb3 b0
 have t1 := keepCell hb3 t1
 have HINC3 := hid (HINC2.out.onto hb3)
 have R3 := hid (R2.out.onto (hb3.block _ R2.out.lt))
 have HB3 := hid (vonto HB2.out hb3)
 clear hb3 CI t0 HINC2 R2
 rcases hres with ⟨i, R, h1, h2, h3, rfl⟩ | ⟨hall, rfl⟩
 ·have HUP := hid (show UP K Rs 7 (i + 1) 0 zeroT from .row C i R HCPP.out h1 (by rw [HN.out]; exact h2) (fun k R' hk hR' => by rw [HN.out]; exact h3 k R' hk hR'))
  have him : i < m := by have := lt_of_some h1; have := HM.out; omega
  have HB9 := HB3
  have R9 := R3
  clear h1 h2 h3
  obtain ⟨u0, e0⟩ := R9.out.cell (o := 0) (by decide)
  obtain ⟨u1, e1⟩ := R9.out.cell (o := 1) (by decide)
  obtain ⟨u2, e2⟩ := R9.out.cell (o := 2) (by decide)
  obtain ⟨u3, e3⟩ := R9.out.cell (o := 3) (by decide)
  obtain ⟨u4, e4⟩ := R9.out.cell (o := 4) (by decide)
  have z0 := R9.out.frozen
  go_wp2_with fail
  refine bodyPost_ret (v := .tuple #[vv zeroT (.slice none 0 0) (.slice none 0 0), .int .i64 7, .int .i64 ((i + 1 : Nat) : Int), .int .i64 ((0 : Nat) : Int)]) (by simp [results, Tryz.results14, go_sem, vv, zeroT, VT.kd, VT.nm, VT.st, e0, e1, e2, e3, e4]) rfl ?_
  exact ⟨zeroT, _, _, _, _, _, rfl, HUP.out, hv_zero _, put5_bel HB9.out (Nat.le_succ _)⟩
 have HALL := hid (show ∀ R ∈ Rs, R.length = K.length from fun R hR => by rw [HN.out]; exact hall R hR)
 clear hall
 by_cases hm0 : m = 0
 ·subst hm0
  have HUP := hid (show UP K Rs 1 0 0 zeroT from .none C HCPP.out (List.eq_nil_of_length_eq_zero HM.out))
  have HB9 := HB3
  have R9 := R3
  obtain ⟨u0, e0⟩ := R9.out.cell (o := 0) (by decide)
  obtain ⟨u1, e1⟩ := R9.out.cell (o := 1) (by decide)
  obtain ⟨u2, e2⟩ := R9.out.cell (o := 2) (by decide)
  obtain ⟨u3, e3⟩ := R9.out.cell (o := 3) (by decide)
  obtain ⟨u4, e4⟩ := R9.out.cell (o := 4) (by decide)
  have z0 := R9.out.frozen
  go_wp2_with fail
  refine bodyPost_ret (v := .tuple #[vv zeroT (.slice none 0 0) (.slice none 0 0), .int .i64 1, .int .i64 ((0 : Nat) : Int), .int .i64 ((0 : Nat) : Int)]) (by simp [results, Tryz.results14, go_sem, vv, zeroT, VT.kd, VT.nm, VT.st, e0, e1, e2, e3, e4]) rfl ?_
  exact ⟨zeroT, _, _, _, _, _, rfl, HUP.out, hv_zero _, put5_bel HB9.out (Nat.le_succ _)⟩
 have tm : ((m : Int) == 0) = false := by rw [beq_eq_false_iff_ne]; omega
 have HNE := hid (show Rs ≠ [] from fun e => hm0 (by rw [← HM.out, e]; rfl))
 go_upto_region 10 with fail
 refine cewp_gen ?_
 intro W4 hW
 have HRV := hid (show RvS w3 W4 (.slice none 0 0) [] from by
  subst hW
  exact ⟨valloc_bel (Below.refl _ _) _, World.ownsRow_nil _ _ _ _, by simp only [World.alloc, Array.getElem?_push_size]⟩)
 have t1 := keepCell HRV.out.bel t1
 clear hW
 go_wp2_with fail
 go_loopw [11, 47] (fun nv i wr => ∃ (j nd : Nat) (v : Value) (E : List (VT × Value × Value)) (TL : List VT), i = .int .i64 j ∧ nv = .int .i64 (nd : Int) ∧ j ≤ m ∧ Hid (RvS w3 wr v E) ∧ Hid (∀ e ∈ E, HS wr (farOf w3.heap.size wr v) e.1 e.2.1 e.2.2) ∧ Hid (TL.length = j) ∧ Hid (∀ (i : Nat) (R : List ByteArray), i < j → Rs[i]? = some R → ∃ T, TL[i]? = some T ∧ MP C R 0 0 T) ∧ Hid (nd = 1 + szL TL) ∧ nd ≤ 1 + 4096 * j ∧ Hid (nd ≤ 4096 → E.map (·.1) = TL) ∧ E.length ≤ j) (fun _ i _ => m - (intOf i).toNat)
 case atStart => exact ⟨0, 1, _, [], [], rfl, rfl, Nat.zero_le _, HRV, hid (fun e he => by simp at he), hid rfl, hid (fun i R h => absurd h (Nat.not_lt_zero i)), hid rfl, by omega, hid (fun _ => rfl), Nat.le_refl _⟩
 case round =>
  clear HRV
  obtain ⟨j, nd, v, E, TL, rfl, rfl, hj, HRV, HHS, HTL, HMP, HND, hnd, HEM, hEl⟩ := hrel
  have HBr := hid (show Below w.heap.size w wr from vonto HB3.out HRV.out.bel)
  have R4 := hid (R3.out.onto (HRV.out.bel.block _ R3.out.lt))
  by_cases hlt : j < m
  ·obtain ⟨R, hR⟩ : ∃ R, Rs[j]? = some R := ⟨Rs[j]'(by rw [HM.out]; exact hlt), List.getElem?_eq_getElem _⟩
   have hRm := List.mem_of_getElem? hR
   obtain rfl := HR3.out (by rw [HM.out]; omega)
   obtain ⟨u, hu, hin⟩ := HCR.out j R hR
   have hu := keepCell HBr.out hu
   have hin := hin.onto HBr.out
   have b0r := keepCell HRV.out.bel b0
   have CM := hid (umap_any C R u (.slice ocv nc ccv) wr hin (by have := HINC3.out.onto HRV.out.bel; rwa [HNC.out] at this) (HG.out.1.1.on HBr.out) (by rw [HALL.out R hRm, HCL.out]) (by rw [HALL.out R hRm, HN.out]; omega) (HRS.out R hRm) (fun p hp => by obtain ⟨c, -, h⟩ := HCM.out p hp; exact prs_cn h) (fun p hp => by obtain ⟨c, hc, h⟩ := HCM.out p hp; exact (HCP.out c hc p h).2) (fun p hp => by obtain ⟨c, hc, h⟩ := HCM.out p hp; exact (HCP.out c hc p h).1))
   obtain ⟨au, ⟨ou, cu, rfl, -⟩, -⟩ := hin
   have HRJ := hid hR
   clear hR hRm
   go_wp2_with fail
   go_at_call 41
   refine CM.out.mono ?_
   rintro e w5 ⟨T, x, y, k, c, rfl, hmp, hhs, hb5⟩
   obtain ⟨ox, nx0, cx, oy, ny, cy, rfl, rfl⟩ := hv_slices hhs.hv
   have HMPT := hid hmp
   have HHT := hid hhs
   have HB5 := hid hb5
   have R5 := hid (R4.out.onto (hb5.block _ R4.out.lt))
   clear hmp hhs hb5 CM hu b0r R4
   simp only [vv]
   go_upto_region 14 with fail
   refine cewp_gen ?_
   intro W6 hW
   have hb6 : Below w5.heap.size w5 W6 := by rw [hW]; exact valloc_bel (Below.refl _ _) _
   have v0 : W6.cell? ⟨w5.heap.size, 0, none⟩ = some (.int .i64 T.kd) := by rw [hW]; simp
   have v1 : W6.cell? ⟨w5.heap.size, 1, none⟩ = some (.int .i64 T.nm) := by rw [hW]; simp
   have v2 : W6.cell? ⟨w5.heap.size, 2, none⟩ = some (.string T.st) := by rw [hW]; simp
   have v3 : W6.cell? ⟨w5.heap.size, 3, none⟩ = some (.slice ox nx0 cx) := by rw [hW]; simp
   have v4 : W6.cell? ⟨w5.heap.size, 4, none⟩ = some (.slice oy ny cy) := by rw [hW]; simp
   have HB6 := hid hb6
   have R9 := hid (R5.out.onto (hb6.block _ R5.out.lt))
   have HB9 := hid (show Below w.heap.size w W6 from vonto (vonto HBr.out HB5.out) hb6)
   clear hW hb6 R5
   by_cases hk0 : k = 0
   case neg =>
    have HUP := hid (show UP K Rs k (j + 1) c zeroT from .bad C j R k c T HCPP.out HALL.out HRJ.out HMPT.out hk0 (fun i R' hi hR' => by
     obtain ⟨T, -, h⟩ := HMP.out i R' hi hR'
     exact ⟨T, h⟩))
    have tk2 : (k != 0) = true := by simpa using hk0
    clear hk0 v0 v1 v2 v3 v4
    obtain ⟨u0, e0⟩ := R9.out.cell (o := 0) (by decide)
    obtain ⟨u1, e1⟩ := R9.out.cell (o := 1) (by decide)
    obtain ⟨u2, e2⟩ := R9.out.cell (o := 2) (by decide)
    obtain ⟨u3, e3⟩ := R9.out.cell (o := 3) (by decide)
    obtain ⟨u4, e4⟩ := R9.out.cell (o := 4) (by decide)
    have z0 := R9.out.frozen
    go_wp2_with fail
    refine bodyPost_ret (v := .tuple #[vv zeroT (.slice none 0 0) (.slice none 0 0), .int .i64 k, .int .i64 ((j + 1 : Nat) : Int), .int .i64 ((c : Nat) : Int)]) (by simp [results, Tryz.results14, go_sem, vv, zeroT, VT.kd, VT.nm, VT.st, e0, e1, e2, e3, e4]) rfl ?_
    exact ⟨zeroT, _, _, _, _, _, rfl, HUP.out, hv_zero _, put5_bel HB9.out (Nat.le_succ _)⟩
   have tk2 : (k != 0) = false := by simpa using hk0
   subst hk0
   obtain rfl : c = 0 := HMPT.out.zero
   have hsm := HMPT.out.small
   have CS := hid (vsize_any _ T _ _ W6 (Nat.le_refl _) (HHT.out.hv.onto HB6.out) (by omega))
   obtain ⟨z, hz⟩ : ∃ z, szT T = z := ⟨_, rfl⟩
   rw [hz] at CS hsm
   have HZ := hid hz
   have hz4 := hsm.1
   have HTL2 := hid (show (TL ++ [T]).length = j + 1 by rw [List.length_append, HTL.out]; rfl)
   have HMP2 := hid (show ∀ (i : Nat) (R : List ByteArray), i < j + 1 → Rs[i]? = some R → ∃ T', (TL ++ [T])[i]? = some T' ∧ MP C R 0 0 T' from fun i R' hi hR' => by
    by_cases hij : i = j
    ·subst hij
     rw [HRJ.out] at hR'; injection hR' with hR'; subst hR'
     exact ⟨T, by rw [List.getElem?_append_right (by rw [HTL.out]; exact Nat.le_refl _), HTL.out, Nat.sub_self]; rfl, HMPT.out⟩
    ·obtain ⟨T', h1, h2⟩ := HMP.out i R' (by omega) hR'
     exact ⟨T', by rw [List.getElem?_append_left (by rw [HTL.out]; omega)]; exact h1, h2⟩)
   have HND2 := hid (show nd + z = 1 + szL (TL ++ [T]) by rw [szL_snoc, HZ.out]; have := HND.out; omega)
   clear hsm hz
   simp only [vv] at CS
   go_wp2_with fail
   go_at_call 42
   refine CS.out.mono ?_
   rintro e w7 ⟨rfl, hb7⟩
   have v0 := keepCell hb7 v0
   have v1 := keepCell hb7 v1
   have v2 := keepCell hb7 v2
   have v3 := keepCell hb7 v3
   have v4 := keepCell hb7 v4
   have HB57 := hid (vonto HB6.out hb7)
   have hvl : ∀ k, v.ownBlock = some k → k < wr.heap.size := fun k hk => (HRV.out.own.lt k hk).2
   have HVL := hid hvl
   have HRV7 := hid (show RvS w3 w7 v E from by
    have hB := vonto HB5.out HB57.out
    exact ⟨vonto HRV.out.bel hB, ownsRow_below HRV.out.own hB, by rw [hB.block _ (Array.getElem?_eq_some_iff.1 HRV.out.box).1]; exact HRV.out.box⟩)
   have HHS7 := hid (show ∀ e ∈ E, HS w7 (farOf w3.heap.size w7 v) e.1 e.2.1 e.2.2 from fun e he => by
    have hB := vonto HB5.out HB57.out
    exact (HHS.out e he).onto (fun k hk => hB.block k hk.2.1) (fun k hk => ⟨hk.1, Nat.lt_of_lt_of_le hk.2.1 hB.size, hk.2.2⟩))
   have HHT7 := hid (show HS w7 (farOf w3.heap.size w7 v) T (.slice ox nx0 cx) (.slice oy ny cy) from HHT.out.onto (fun k hk => HB57.out.block k hk.2) (fun k hk => ⟨by
    have h1 := hk.1
    have h2 := HRV.out.bel.size
    have h3 : w3.heap.size < wr.heap.size := (Array.getElem?_eq_some_iff.1 HRV.out.box).1
    omega, Nat.lt_of_lt_of_le hk.2 HB57.out.size, fun e => by have := HVL.out k e; have := hk.1; omega⟩))
   clear hb7 CS R9 HB9
   by_cases hfit : nd + z ≤ 4096
   ·have tf : (decide (((nd : Int) + (z : Int)) ≤ 4096)) = true := by rw [decide_eq_true_iff]; omega
    obtain ⟨ov, cv, rfl⟩ := own_slice HRV7.out.own
    have l3 := HRV7.out.cells 3 _ rfl
    have lf : w7.frozen? ⟨w3.heap.size, 3, none⟩ = false := by simp [World.frozen?, HRV7.out.box]
    have HOWN := hid HRV7.out.own
    have hsz3 : w3.heap.size + 1 ≤ w7.heap.size := by have := (Array.getElem?_eq_some_iff.1 HRV7.out.box).1; omega
    obtain ⟨g9, cap9, Y, hr, hown9, hgr9, hat9⟩ := catV (w3.heap.size + 1) (w7.alloc (.cells #[.int .i64 T.kd, .int .i64 T.nm, .string T.st, .slice ox nx0 cx, .slice oy ny cy] 29)) (.slice ov E.length cv) E E.length rfl (HOWN.out.alloc _) w7.heap.size (T, .slice ox nx0 cx, .slice oy ny cy) rfl rfl (fun i u hu => by have := new_cells w7 (vc (T, .slice ox nx0 cx, .slice oy ny cy)) 29 i u hu; rwa [add_at] at this) (by simp; omega) (by omega)
    obtain ⟨X8, hX8⟩ : ∃ X, w7.alloc (.cells #[.int .i64 T.kd, .int .i64 T.nm, .string T.st, .slice ox nx0 cx, .slice oy ny cy] 29) = X := ⟨_, rfl⟩
    have hb8 : Below w7.heap.size w7 X8 := by rw [← hX8]; exact valloc_bel (Below.refl _ _) _
    have hsz8 : X8.heap.size = w7.heap.size + 1 := by rw [← hX8]; simp
    rw [hX8] at hr hgr9 hat9
    have hlt9 : ∀ q, q < w7.heap.size → some q ≠ (Value.slice ov E.length cv).ownBlock → Y.heap[q]? = w7.heap[q]? := fun q hq hn => (hgr9.block q (by omega) hn).trans (hb8.block q hq)
    have hne3 : some w3.heap.size ≠ (Value.slice ov E.length cv).ownBlock := fun e => by have := (HOWN.out.lt _ e.symm).1; omega
    have hbx9 : Y.heap[w3.heap.size]? = _ := (hlt9 w3.heap.size (by omega) hne3).trans HRV7.out.box
    have lf9 : Y.frozen? ⟨w3.heap.size, 3, none⟩ = false := by simp [World.frozen?, hbx9]
    have l39 : Y.cell? ⟨w3.heap.size, 3, none⟩ = some (.slice ov E.length cv) := by rw [cell_of_row Y w3.heap.size 3 _ _ _ hbx9]; rfl
    have HRV9 := hid (show RvS w3 (Y.setCell ⟨w3.heap.size, 3, none⟩ (.slice (some ⟨g9, 0, none⟩) (E.length + 1) cap9)) (.slice (some ⟨g9, 0, none⟩) (E.length + 1) cap9) (E ++ [(T, .slice ox nx0 cx, .slice oy ny cy)]) from by
     have hS4 : RvS w3 X8 (.slice ov E.length cv) E := ⟨vonto HRV7.out.bel hb8, ownsRow_below HOWN.out hb8, by rw [hb8.block _ (by omega)]; exact HRV7.out.box⟩
     exact hS4.more (T, .slice ox nx0 cx, .slice oy ny cy) hown9 hgr9)
    have hss9 : w7.heap.size ≤ Y.heap.size := by have := hgr9.size; omega
    have HSS : ∀ (t : VT) (x y : Value), HS w7 (farOf w3.heap.size w7 (.slice ov E.length cv)) t x y → HS (Y.setCell ⟨w3.heap.size, 3, none⟩ (.slice (some ⟨g9, 0, none⟩) (E.length + 1) cap9)) (farOf w3.heap.size (Y.setCell ⟨w3.heap.size, 3, none⟩ (.slice (some ⟨g9, 0, none⟩) (E.length + 1) cap9)) (.slice (some ⟨g9, 0, none⟩) (E.length + 1) cap9)) t x y := fun t x y h => h.onto (fun k hk => by
      obtain ⟨k1, k2, k3⟩ := hk
      rw [(set_grownW Y w3.heap.size 3 _).block k (by omega) (fun e => by injection e with e; omega)]
      exact hlt9 k k2 (fun e => k3 e.symm)) (fun k hk => by
      obtain ⟨k1, k2, k3⟩ := hk
      refine ⟨k1, by have := (set_grownW Y w3.heap.size 3 (.slice (some ⟨g9, 0, none⟩) (E.length + 1) cap9)).size; omega, fun e => ?_⟩
      have e : g9 = k := by simpa [Value.ownBlock] using e
      rcases hat9 with h | h
      ·exact k3 (by rw [h, e])
      ·omega)
    have HHS9 := hid (show ∀ e ∈ E ++ [(T, .slice ox nx0 cx, .slice oy ny cy)], HS (Y.setCell ⟨w3.heap.size, 3, none⟩ (.slice (some ⟨g9, 0, none⟩) (E.length + 1) cap9)) (farOf w3.heap.size (Y.setCell ⟨w3.heap.size, 3, none⟩ (.slice (some ⟨g9, 0, none⟩) (E.length + 1) cap9)) (.slice (some ⟨g9, 0, none⟩) (E.length + 1) cap9)) e.1 e.2.1 e.2.2 from fun e he => by
     rcases List.mem_append.1 he with he | he
     ·exact HSS _ _ _ (HHS7.out e he)
     ·simp only [List.mem_singleton] at he
      subst he
      exact HSS _ _ _ HHT7.out)
    have HEM2 := hid (show nd + z ≤ 4096 → (E ++ [(T, Value.slice ox nx0 cx, Value.slice oy ny cy)]).map (·.1) = TL ++ [T] from fun _ => by
     rw [List.map_append, HEM.out (by omega)]; rfl)
    clear HSS hsz8 hss9 hbx9 hne3 hlt9 hb8 hown9 hgr9 hat9 HRV7 HHS7 HHT7 HOWN
    rw [← hX8] at hr
    clear hX8 X8
    go_wp2_with (at_builtin; go_must (refine Lib.wpList_append_run _ rfl _ _ _ _ rfl _ _ rfl rfl _ Y hr ?_))
    generalize Y.setCell ⟨w3.heap.size, 3, none⟩ (.slice (some ⟨g9, 0, none⟩) (E.length + 1) cap9) = wA at *
    go_roundw
    case rel => exact ⟨j + 1, nd + z, _, E ++ [(T, .slice ox nx0 cx, .slice oy ny cy)], TL ++ [T], val_int (by omega), val_int (by omega), hlt, HRV9, HHS9, HTL2, HMP2, HND2, by omega, HEM2, by rw [List.length_append]; simp; omega⟩
    case measure => simp [intOf]; omega
   ·have tf : (decide (((nd : Int) + (z : Int)) ≤ 4096)) = false := by rw [decide_eq_false_iff_not]; omega
    go_wp2_with fail
    go_roundw
    case rel => exact ⟨j + 1, nd + z, v, E, TL ++ [T], val_int (by omega), val_int (by omega), hlt, HRV7, HHS7, HTL2, HMP2, HND2, by omega, hid (fun h => absurd h hfit), by omega⟩
    case measure => simp [intOf]; omega
  ·have hjm : j = m := by omega
   subst hjm
   have HMPA := hid (show ∀ (i : Nat) (R : List ByteArray), Rs[i]? = some R → ∃ T, TL[i]? = some T ∧ MP C R 0 0 T from fun i R hR => HMP.out i R (by have := lt_of_some hR; have := HM.out; omega) hR)
   have HTLR := hid (show TL.length = Rs.length by rw [HTL.out, HM.out])
   have hsz : nd = szT (.mk 5 0 ⟨#[]⟩ TL [] []) := by simp only [szT, szL]; have := HND.out; omega
   by_cases hfit : nd ≤ 4096
   case neg =>
    have tf : (decide ((nd : Int) > 4096)) = true := by rw [decide_eq_true_iff]; omega
    have hmay : mayB 0 1 (.mk 5 0 ⟨#[]⟩ TL [] []) = false := by
     cases h : mayB 0 1 (.mk 5 0 ⟨#[]⟩ TL [] []) with
     | false => rfl
     | true => have := (good_sz h).1; omega
    have HUP := hid (show UP K Rs 2 0 0 zeroT from .great C TL HCPP.out HALL.out HNE.out HTLR.out HMPA.out hmay)
    have R9 := R4
    have HB9 := HBr
    clear hmay hsz HHS HEM HMP HMPA HND HTL HRV
    obtain ⟨u0, e0⟩ := R9.out.cell (o := 0) (by decide)
    obtain ⟨u1, e1⟩ := R9.out.cell (o := 1) (by decide)
    obtain ⟨u2, e2⟩ := R9.out.cell (o := 2) (by decide)
    obtain ⟨u3, e3⟩ := R9.out.cell (o := 3) (by decide)
    obtain ⟨u4, e4⟩ := R9.out.cell (o := 4) (by decide)
    have z0 := R9.out.frozen
    go_wp2_with fail
    refine bodyPost_ret (v := .tuple #[vv zeroT (.slice none 0 0) (.slice none 0 0), .int .i64 2, .int .i64 ((0 : Nat) : Int), .int .i64 ((0 : Nat) : Int)]) (by simp [results, Tryz.results14, go_sem, vv, zeroT, VT.kd, VT.nm, VT.st, e0, e1, e2, e3, e4]) rfl ?_
    exact ⟨zeroT, _, _, _, _, _, rfl, HUP.out, hv_zero _, put5_bel HB9.out (Nat.le_succ _)⟩
   have tf : (decide ((nd : Int) > 4096)) = false := by rw [decide_eq_false_iff_not]; omega
   have HHV := hid (show HV wr (.mk 5 0 ⟨#[]⟩ TL [] []) v (.slice none 0 0) from by
    have := HRV.out.hv (fun e he => (HHS.out e he).hv)
    rwa [HEM.out hfit] at this)
   have CG := hid (vgood_any (.mk 5 0 ⟨#[]⟩ TL [] []) v (.slice none 0 0) wr (HG.out.1.1.on HBr.out) HHV.out)
   obtain ⟨ov, cv, rfl⟩ := own_slice HRV.out.own
   have l0 := HRV.out.cells 0 _ rfl
   have l1 := HRV.out.cells 1 _ rfl
   have l2 := HRV.out.cells 2 _ rfl
   have l3 := HRV.out.cells 3 _ rfl
   have l4 := HRV.out.cells 4 _ rfl
   have HEM1 := hid (HEM.out hfit)
   have hvl : ∀ k, (Value.slice ov E.length cv).ownBlock = some k → w3.heap.size < k ∧ k < wr.heap.size := fun k hk => HRV.out.own.lt k hk
   have HVL := hid hvl
   have hr1 := R3.out.lt
   have HR1 := hid hr1
   clear hvl hr1 hsz
   obtain ⟨gb, hgb⟩ : ∃ b, mayB 0 1 (.mk 5 0 ⟨#[]⟩ TL [] []) = b := ⟨_, rfl⟩
   rw [hgb] at CG
   simp only [vv, VT.kd, VT.nm, VT.st] at CG
   have HGB := hid hgb
   clear hgb
   go_wp2_with fail
   go_at_call 43
   refine CG.out.mono ?_
   rintro e w8 ⟨rfl, hb8⟩
   have l0 := keepCell hb8 l0
   have l1 := keepCell hb8 l1
   have l2 := keepCell hb8 l2
   have l3 := keepCell hb8 l3
   have l4 := keepCell hb8 l4
   have HB8 := hid hb8
   have R9 := hid (R4.out.onto (hb8.block _ R4.out.lt))
   have HB9 := hid (vonto HBr.out hb8)
   clear hb8 CG
   obtain ⟨u0, e0⟩ := R9.out.cell (o := 0) (by decide)
   obtain ⟨u1, e1⟩ := R9.out.cell (o := 1) (by decide)
   obtain ⟨u2, e2⟩ := R9.out.cell (o := 2) (by decide)
   obtain ⟨u3, e3⟩ := R9.out.cell (o := 3) (by decide)
   obtain ⟨u4, e4⟩ := R9.out.cell (o := 4) (by decide)
   have z0 := R9.out.frozen
   cases gb with
   | false =>
    have HUP := hid (show UP K Rs 2 0 0 zeroT from .great C TL HCPP.out HALL.out HNE.out HTLR.out HMPA.out HGB.out)
    go_wp2_with fail
    refine bodyPost_ret (v := .tuple #[vv zeroT (.slice none 0 0) (.slice none 0 0), .int .i64 2, .int .i64 ((0 : Nat) : Int), .int .i64 ((0 : Nat) : Int)]) (by simp [results, Tryz.results14, go_sem, vv, zeroT, VT.kd, VT.nm, VT.st, e0, e1, e2, e3, e4]) rfl ?_
    exact ⟨zeroT, _, _, _, _, _, rfl, HUP.out, hv_zero _, put5_bel HB9.out (Nat.le_succ _)⟩
   | true =>
    have HUP := hid (show UP K Rs 0 0 0 (.mk 5 0 ⟨#[]⟩ TL [] []) from .ok C TL HCPP.out HALL.out HNE.out HTLR.out HMPA.out HGB.out)
    go_wp2_with fail
    refine bodyPost_ret (v := .tuple #[vv (.mk 5 0 ⟨#[]⟩ TL [] []) (.slice ov E.length cv) (.slice none 0 0), .int .i64 0, .int .i64 ((0 : Nat) : Int), .int .i64 ((0 : Nat) : Int)]) (by simp [results, Tryz.results14, go_sem, vv, VT.kd, VT.nm, VT.st, e0, e1, e2, e3, e4]) rfl ?_
    refine ⟨_, _, _, _, _, _, rfl, HUP.out, ?_, put5_bel HB9.out (Nat.le_succ _)⟩
    have hne : ∀ k, w3.heap.size < k → k < wr.heap.size → ∀ v0 v1 v2 v3 v4, (put5 w8 (w.heap.size + 1) 0 v0 v1 v2 v3 v4).heap[k]? = wr.heap[k]? := fun k h1 h2 v0 v1 v2 v3 v4 => by
     have := HR1.out
     rw [put5_heap _ _ _ _ _ _ _ _ _ (by omega)]
     exact HB8.out.block k h2
    rw [← HEM1.out]
    refine row_hv (base := w3.heap.size + 1) ?_ (fun e he => ((HHS.out e he).onto (S' := fun _ => True) (fun k hk => hne k hk.1 hk.2.1 _ _ _ _ _) (fun _ _ => trivial)).hv)
    exact own_far5 (ownsRow_below HRV.out.own HB8.out) _ _ _ _ _ _ _ (fun g hg e => by have := (HVL.out g hg).1; have := HR1.out; omega)
end Go.Proofs.YteimbjamnfkapaaGreatDoor
