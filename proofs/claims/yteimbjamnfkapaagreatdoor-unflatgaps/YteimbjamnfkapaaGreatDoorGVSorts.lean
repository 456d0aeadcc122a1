/- The library's Clone and SortFunc at pairs, laid at this translation. -/
import Derived.Test.YteimbjamnfkapaaGreatDoorGMathUd
import Derived.Test.YteimbjamnfkapaaGreatDoorGPathFind
import Derived.Shelf.SlSortCmp.WholeK
import Derived.Shelf.SlSortCmp.NoneTotal
import Derived.Test.YteimbjamnfkapaaGreatDoorProg
import Derived.Test.YteimbjamnfkapaaGreatDoorGVBase
import Derived.Test.YteimbjamnfkapaaGreatDoorGPathDoc
import Derived.Test.YteimbjamnfkapaaGreatDoorGShelf
import Derived.Test.YteimbjamnfkapaaGreatDoorGMathDecAll
/- unflat: slices.ContainsFunc over numbers; gap, walked. -/
namespace Go.Proofs.YteimbjamnfkapaaGreatDoor
open Go.RowKit Go.Maps
def InI (w : World) (L : List Nat) (v : Value) : Prop := ∃ a, SlOf v a L.length ∧ ∀ (i b : Nat), L[i]? = some b → w.cell? (a.add i) = some (.int .i64 (b : Int))
theorem InI.onto {w w' : World} {L : List Nat} {v : Value} (h : InI w L v) (hb : Below w.heap.size w w') : InI w' L v := by
 obtain ⟨a, h1, h2⟩ := h
 exact ⟨a, h1, fun i b hi => keepCell hb (h2 i b hi)⟩
theorem own_ini {w : World} {B : Nat} {L : List Nat} {v : Value} (h : w.ownsRow B 3 1 v L.length (pI L)) : InI w L v := by
 have hc := h
 rcases hc with ⟨-, ⟨rfl, h0⟩ | ⟨g, cap, cur, rfl, -, -, hn, hcm, -, -⟩⟩
 ·have : L = [] := List.eq_nil_of_length_eq_zero h0
  subst this
  exact ⟨⟨0, 0, none⟩, ⟨none, 0, rfl, Nat.le_refl _, Nat.zero_le _, fun h => absurd h (by simp)⟩, fun i s h => by simp at h⟩
 ·refine ⟨⟨g, 0, none⟩, ⟨_, cap, rfl, by omega, hcm, fun _ => rfl⟩, fun i b hb => ?_⟩
  have hi := lt_of_some hb
  rw [add_at, h.cellAt i (by omega)]
  unfold pI
  rw [List.getElem?_map, hb]; rfl
set_option maxRecDepth 100000 in
set_option maxHeartbeats 1000000 in
theorem iidx_any (G : Nat) (lb : Array Value) (eg : ∀ args w, (callFunc G args).run Tryz.prog w = .ok (.enter G args) w) (pr : Nat → Bool) (K : List Nat) (y : Value) (w : World) (hM : InI w K y)
  (hG : ∀ (W : World) (c : Nat), c ∈ K → Below w.heap.size w W → Calls Tryz.prog G (#[.int .i64 (c : Int)] ++ lb) W fun e w' => e = .returned (.bool (pr c)) ∧ Below W.heap.size W w') :
  Calls Tryz.prog 149 #[y, .func (.func G) #[] lb] w (IdxPost (K.any pr) w) := by
 obtain ⟨a, ⟨o, cap, rfl, h1, h2, h3⟩, hk⟩ := hM
 unfold maxLen at h2
 have HG := hid hG
 have HK := hid hk
 obtain ⟨R, hR⟩ : ∃ R, K.any pr = R := ⟨_, rfl⟩
 have HR := hid hR
 rw [hR]
 clear hR hG hk
 unfold IdxPost
 go_enter Tryz.func149, Tryz.ntmps149
 go_wp2_with fail
 go_loopw [8] (fun x wr => ∃ j : Nat, x = .int .i64 j ∧ j ≤ K.length ∧ Hid (∀ (i : Nat) (d : Nat), i < j → K[i]? = some d → pr d = false) ∧ Hid (Below w.heap.size w wr)) (fun x _ => K.length - (intOf x).toNat)
 case atStart => exact ⟨0, rfl, Nat.zero_le _, fun i d h => absurd h (Nat.not_lt_zero _), Below.refl _ _⟩
 case round =>
  obtain ⟨j, rfl, hj, HJ, HB⟩ := hrel
  by_cases hlt : j < K.length
  ·obtain ⟨c, hc⟩ : ∃ c, K[j]? = some c := ⟨K[j], List.getElem?_eq_getElem hlt⟩
   obtain rfl := h3 (by omega)
   have k0 := keepCell HB.out (HK.out j c hc)
   have HS := hid (HG.out wr c (List.mem_of_getElem? hc) HB.out)
   have HC := hid hc
   cases hpr : pr c with
   | true =>
    have HR2 := hid (HR.out.symm.trans (any_yes hc hpr))
    rw [hpr] at HS
    clear hpr hc
    go_wp2_with (go_at_fn G; go_must (refine HS.out.mono ?_; rintro e w1 ⟨rfl, hb1⟩))
    go_ret
    exact ⟨_, rfl, by rw [HR2.out]; simp, vonto HB.out hb1⟩
   | false =>
    have HJ2 := hid (show ∀ (i : Nat) (d : Nat), i < j + 1 → K[i]? = some d → pr d = false from fun i d hi hd => by
     by_cases e : i = j
     ·subst e; rw [hc] at hd; cases hd; exact hpr
     ·exact HJ.out i d (by omega) hd)
    rw [hpr] at HS
    clear hpr hc
    go_wp2_with (go_at_fn G; go_must (refine HS.out.mono ?_; rintro e w1 ⟨rfl, hb1⟩))
    go_roundw
    case rel => exact ⟨j + 1, val_int (by omega), hlt, HJ2, vonto HB.out hb1⟩
    case measure => simp [intOf]; omega
  ·have HR2 := hid (HR.out.symm.trans (any_no (fun i d hd => HJ.out i d (by have := lt_of_some hd; omega) hd)))
   go_wp2_with fail
   go_ret
   exact ⟨_, rfl, by rw [HR2.out]; rfl, HB.out⟩
theorem icon_any (G : Nat) (lb : Array Value) (eg : ∀ args w, (callFunc G args).run Tryz.prog w = .ok (.enter G args) w) (pr : Nat → Bool) (K : List Nat) (y : Value) (w : World) (hM : InI w K y)
  (hG : ∀ (W : World) (c : Nat), c ∈ K → Below w.heap.size w W → Calls Tryz.prog G (#[.int .i64 (c : Int)] ++ lb) W fun e w' => e = .returned (.bool (pr c)) ∧ Below W.heap.size W w') :
  Calls Tryz.prog 94 #[y, .func (.func G) #[] lb] w fun e w' => e = .returned (.bool (K.any pr)) ∧ Below w.heap.size w w' := by
 have C := hid (iidx_any G lb eg pr K y w hM hG)
 obtain ⟨a, ⟨o, cap, rfl, -⟩, -⟩ := hM
 generalize K.any pr = R at C ⊢
 clear hG
 go_enter Tryz.func94, Tryz.ntmps94
 go_wp2_with (go_at_call 149; go_must (refine C.out.mono ?_; rintro e w1 ⟨z, rfl, hz, hb1⟩))
 go_ret
 exact ⟨ret_bool (by first | (rw [← hz]; done) | (rw [← hz, Bool.eq_iff_iff]; done) | (rw [← hz, Bool.eq_iff_iff]; simp; done) | (rw [← hz, Bool.eq_iff_iff]; simp; omega)), hb1⟩
def outA (a : Int) (n : Nat) : Bool := decide (a < 0) || decide ((n : Int) ≤ a)
def outB (E : List NE) (n b : Nat) : Bool := match E[b]? with | none => false | some e => outA e.d.st.at_ n
def gapB (E : List NE) (e : NE) : Bool := decide (e.d.sh = 2) && e.d.ps.any (outB E e.d.ps.length)
set_option maxRecDepth 100000 in
set_option maxHeartbeats 1000000 in
theorem gap1_any (B : Nat) (W : World) (tb m g c : Nat) (E : List NE) (M : Ways) (h : TM B W tb m (.slice (some ⟨g, 0, none⟩) E.length c) E M) (b1 b2 : Nat) (h1 : W.cell? ⟨b1, 0, none⟩ = some (.pointer (some ⟨tb, 0, none⟩))) (o : Option Addr) (n cn : Nat) (h2 : W.cell? ⟨b2, 5, none⟩ = some (.slice o n cn)) (b : Nat) (e : NE) (he : E[b]? = some e) :
  Calls Tryz.prog 93 #[.int .i64 (b : Int), .pointer (some ⟨b1, 0, none⟩), .pointer (some ⟨b2, 0, none⟩)] W fun r w' => r = .returned (.bool (outB E n b)) ∧ Below W.heap.size W w' := by
 have hb := lt_of_some he
 obtain ⟨q0, -, -⟩ := h.cells
 have q1 := h.at_ he 2 _ rfl
 have hr : outB E n b = outA e.d.st.at_ n := by unfold outB; rw [he]
 rw [hr]
 obtain ⟨x, hx⟩ : ∃ x, e.d.st.at_ = x := ⟨_, rfl⟩
 rw [hx] at q1 ⊢
 unfold outA
 clear h hr he hx
 by_cases h0 : x < 0
 ·have hd : decide (x < 0) = true := by simpa using h0
  have HR := hid (show (decide (x < 0) || decide ((n : Int) ≤ x)) = true by rw [hd]; rfl)
  generalize (decide (x < 0) || decide ((n : Int) ≤ x)) = R at HR ⊢
  go_enter Tryz.func93, Tryz.ntmps93
  go_wp2_with fail
  go_ret
  exact ⟨ret_bool HR.out.symm, Below.refl _ _⟩
 ·have hd : decide (x < 0) = false := by simpa using h0
  have HR := hid (show (decide (x < 0) || decide ((n : Int) ≤ x)) = decide ((n : Int) ≤ x) by rw [hd]; rfl)
  generalize (decide (x < 0) || decide ((n : Int) ≤ x)) = R at HR ⊢
  go_enter Tryz.func93, Tryz.ntmps93
  go_wp2_with fail
  go_ret
  exact ⟨ret_bool HR.out.symm, Below.refl _ _⟩
def GapP (E : List NE) (w : World) (r : Ending) (w' : World) : Prop := Below w.heap.size w w' ∧ ((∃ (a : Nat) (e : NE), E[a]? = some e ∧ gapB E e = true ∧ (∀ (c : Nat) (m : NE), c < a → E[c]? = some m → gapB E m = false) ∧ r = .returned (.tuple #[.int .i64 (e.d.lf : Int), .bool true])) ∨ ((∀ e ∈ E, gapB E e = false) ∧ r = .returned (.tuple #[.int .i64 0, .bool false])))
theorem nbox_of {w W : World} {a b c d e f : Value} (h : W = w.alloc (.cells #[a, b, c, d, e, f] 152)) : W.cell? ⟨w.heap.size, 0, none⟩ = some a ∧ W.cell? ⟨w.heap.size, 4, none⟩ = some e ∧ W.cell? ⟨w.heap.size, 5, none⟩ = some f ∧ Below w.heap.size w W := by
 subst h
 exact ⟨by simp, by simp, by simp, valloc_bel (Below.refl _ _) _⟩
theorem pbox_of {w W : World} {a : Value} {t : TypeId} (h : W = w.alloc (.cells #[a] t)) : W.cell? ⟨w.heap.size, 0, none⟩ = some a ∧ Below w.heap.size w W := by
 subst h
 exact ⟨by simp, valloc_bel (Below.refl _ _) _⟩
set_option maxRecDepth 100000 in
set_option maxHeartbeats 2000000 in
theorem gap_any (B : Nat) (w : World) (tb m g c : Nat) (E : List NE) (M : Ways) (h : TM B w tb m (.slice (some ⟨g, 0, none⟩) E.length c) E M) (hps : ∀ e ∈ E, ∀ b ∈ e.d.ps, b < E.length) (hl : E.length ≤ 10000000) :
  Calls Tryz.prog 50 #[.pointer (some ⟨tb, 0, none⟩)] w (GapP E w) := by
 have HT := hid h
 have HPS := hid hps
 obtain ⟨q0, -, -⟩ := h.cells
 clear h hps
 go_enter Tryz.func50, Tryz.ntmps50
 go_upto_region 1 with fail
 refine cewp_gen ?_
 intro W hW
 obtain ⟨b0, hbW⟩ := pbox_of hW
 have q0 := keepCell hbW q0
 have HTW := hid (HT.out.onto hbW)
 have HBW := hid hbW
 clear hW hbW HT
 go_wp2_with fail
 go_loopw [12] (fun i wr => ∃ j : Nat, i = .int .i64 j ∧ j ≤ E.length ∧ Hid (∀ (c : Nat) (m : NE), c < j → E[c]? = some m → gapB E m = false) ∧ Hid (Below W.heap.size W wr)) (fun i _ => E.length - (intOf i).toNat)
 case atStart => exact ⟨0, rfl, Nat.zero_le _, hid (fun c m h => absurd h (Nat.not_lt_zero c)), hid (Below.refl _ _)⟩
 case round =>
  obtain ⟨j, rfl, hj, HJ, HB⟩ := hrel
  by_cases hlt : j < E.length
  ·obtain ⟨e, he⟩ : ∃ e, E[j]? = some e := ⟨E[j], List.getElem?_eq_getElem hlt⟩
   have HE := hid he
   have hem := List.mem_of_getElem? he
   have hT := HTW.out.onto HB.out
   obtain ⟨ou, cu, hu⟩ := hT.parts hem
   have p0 := hT.at_ he 0 _ rfl
   have p1 := hT.at_ he 1 _ rfl
   have p2 := hT.at_ he 2 _ rfl
   have p3 := hT.at_ he 3 _ rfl
   have p4 := hT.at_ he 4 _ rfl
   have p5 := hT.at_ he 5 _ rfl
   rw [hu] at p5
   rw [Nat.add_zero] at p0
   have hin := own_ini (hT.ps e hem)
   rw [hu] at hin
   have HIN := hid hin
   have b0r := keepCell HB.out b0
   obtain ⟨q, hq⟩ : ∃ k, e.d.sh = k := ⟨_, rfl⟩
   rw [hq] at p0
   have HQ := hid hq
   have HTR := hid hT
   clear he hu hin hT hq
   go_upto_region 4 with fail
   refine cewp_gen ?_
   intro W1 hW
   obtain ⟨n0, n4, n5, hbW1⟩ := nbox_of hW
   have b0r := keepCell hbW1 b0r
   have HT1 := hid (HTR.out.onto hbW1)
   have HB1 := hid (vonto HB.out hbW1)
   have HIN1 := hid (HIN.out.onto hbW1)
   clear hW hbW1 p0 p1 p2 p3 p4 p5 HIN HTR
   by_cases h2 : q = 2
   ·subst h2
    have CI := hid (icon_any 93 #[.pointer (some ⟨w.heap.size, 0, none⟩), .pointer (some ⟨wr.heap.size, 0, none⟩)] (enters_of Tryz.func93 (by kernel_rfl) rfl) (outB E e.d.ps.length) e.d.ps _ W1 HIN1.out (fun X b hb hX => by
     have hbl := HPS.out e hem b hb
     exact gap1_any B X tb m g c E M (HT1.out.onto hX) w.heap.size wr.heap.size (keepCell hX b0r) ou e.d.ps.length cu (keepCell hX n5) b _ (List.getElem?_eq_getElem hbl)))
    have HG := hid (show gapB E e = e.d.ps.any (outB E e.d.ps.length) by unfold gapB; rw [HQ.out]; simp)
    generalize e.d.ps.any (outB E e.d.ps.length) = R at CI HG
    go_wp2_with fail
    go_at_call 94
    refine CI.out.mono ?_
    rintro r W2 ⟨rfl, hb2⟩
    have n4 := keepCell hb2 n4
    have HB2 := hid (vonto HB1.out hb2)
    clear CI hb2
    cases R with
    | true =>
     go_wp2_with fail
     refine bodyPost_ret (v := .tuple #[.int .i64 (e.d.lf : Int), .bool true]) (by simp [results, Tryz.results50, go_sem]) rfl ?_
     exact ⟨vonto HBW.out HB2.out, .inl ⟨j, e, HE.out, HG.out, HJ.out, rfl⟩⟩
    | false =>
     have HJ2 := hid (show ∀ (c : Nat) (m : NE), c < j + 1 → E[c]? = some m → gapB E m = false from fun c m hcm hm => by
      by_cases ec : c = j
      ·subst ec; rw [HE.out] at hm; injection hm with hm; subst hm; exact HG.out
      ·exact HJ.out c m (by omega) hm)
     go_wp2_with fail
     go_roundw
     case rel => exact ⟨j + 1, val_int (by omega), hlt, HJ2, HB2⟩
     case measure => simp [intOf]; omega
   ·have t2 : (q == 2) = false := by simpa using h2
    have HG := hid (show gapB E e = false by unfold gapB; rw [HQ.out, decide_eq_false h2]; rfl)
    have HJ2 := hid (show ∀ (c : Nat) (m : NE), c < j + 1 → E[c]? = some m → gapB E m = false from fun c m hcm hm => by
     by_cases ec : c = j
     ·subst ec; rw [HE.out] at hm; injection hm with hm; subst hm; exact HG.out
     ·exact HJ.out c m (by omega) hm)
    clear h2
    go_wp2_with fail
    go_roundw
    case rel => exact ⟨j + 1, val_int (by omega), hlt, HJ2, HB1⟩
    case measure => simp [intOf]; omega
  ·have HALL := hid (show ∀ e ∈ E, gapB E e = false from fun e he => by
    obtain ⟨i, hi⟩ := List.getElem?_of_mem he
    exact HJ.out i e (by have := lt_of_some hi; omega) hi)
   go_wp2_with fail
   refine bodyPost_ret (v := .tuple #[.int .i64 0, .bool false]) (by simp [results, Tryz.results50, go_sem]) rfl ?_
   exact ⟨vonto HBW.out HB.out, .inr ⟨HALL.out, rfl⟩⟩
end Go.Proofs.YteimbjamnfkapaaGreatDoor
namespace Go.Proofs
open Go.Shelf
def Tryz.laysSort_ren : Go.Shelf.Ren := ⟨fun | 6 => 95 | 15 => 151 | 14 => 150 | 28 => 212 | 29 => 213 | 20 => 204 | 21 => 205 | 22 => 206 | 23 => 207 | 24 => 208 | 25 => 209 | 26 => 210 | 27 => 211 | 46 => 252 | 47 => 253 | 48 => 254 | 49 => 255 | 50 => 256 | 57 => 290 | n => n, fun | 22 => 27 | 24 => 60 | 25 => 156 | 3 => 3 | 39 => 205 | 0 => 0 | 53 => 249 | 55 => 251 | 4 => 4 | 46 => 243 | 45 => 242 | 50 => 102 | 5 => 5 | 9 => 9 | 66 => 269 | 70 => 273 | 76 => 297 | 77 => 195 | n => n, fun | n => n⟩
theorem Tryz.laysSort : Go.Proofs.SlLaysF0.n6 Tryz.prog Tryz.laysSort_ren := {
 mixed := by kernel_rfl
 f6 := ⟨Tryz.f95.name, by decide, Tryz.func95.trans (congrArg some (by kernel_rfl))⟩
 f14 := ⟨Tryz.f150.name, by decide, Tryz.func150.trans (congrArg some (by kernel_rfl))⟩
 f15 := Tryz.func151.trans (congrArg some (by kernel_rfl))
 f20 := ⟨Tryz.f204.name, by decide, Tryz.func204.trans (congrArg some (by kernel_rfl))⟩
 f21 := ⟨Tryz.f205.name, by decide, Tryz.func205.trans (congrArg some (by kernel_rfl))⟩
 f22 := ⟨Tryz.f206.name, by decide, Tryz.func206.trans (congrArg some (by kernel_rfl))⟩
 f23 := ⟨Tryz.f207.name, by decide, Tryz.func207.trans (congrArg some (by kernel_rfl))⟩
 f24 := ⟨Tryz.f208.name, by decide, Tryz.func208.trans (congrArg some (by kernel_rfl))⟩
 f25 := ⟨Tryz.f209.name, by decide, Tryz.func209.trans (congrArg some (by kernel_rfl))⟩
 f26 := ⟨Tryz.f210.name, by decide, Tryz.func210.trans (congrArg some (by kernel_rfl))⟩
 f27 := ⟨Tryz.f211.name, by decide, Tryz.func211.trans (congrArg some (by kernel_rfl))⟩
 f28 := Tryz.func212.trans (congrArg some (by kernel_rfl))
 f29 := Tryz.func213.trans (congrArg some (by kernel_rfl))
 f46 := ⟨Tryz.f252.name, by decide, Tryz.func252.trans (congrArg some (by kernel_rfl))⟩
 f47 := Tryz.func253.trans (congrArg some (by kernel_rfl))
 f48 := Tryz.func254.trans (congrArg some (by kernel_rfl))
 f49 := ⟨Tryz.f255.name, by decide, Tryz.func255.trans (congrArg some (by kernel_rfl))⟩
 f50 := ⟨Tryz.f256.name, by decide, Tryz.func256.trans (congrArg some (by kernel_rfl))⟩
 f57 := ⟨Tryz.f290.name, by decide, Tryz.func290.trans (congrArg some (by kernel_rfl))⟩
 t0 := Tryz.underlying0
 a0 := Tryz.isAgg0
 z0 := Tryz.sizeOf0
 v0 := Tryz.zeroValue0
 t3 := Tryz.underlying3
 a3 := Tryz.isAgg3
 z3 := Tryz.sizeOf3
 v3 := Tryz.zeroValue3
 t4 := Tryz.underlying4
 a4 := Tryz.isAgg4
 z4 := Tryz.sizeOf4
 v4 := Tryz.zeroValue4
 t5 := Tryz.underlying5
 a5 := Tryz.isAgg5
 z5 := Tryz.sizeOf5
 v5 := Tryz.zeroValue5
 t9 := Tryz.underlying9
 a9 := Tryz.isAgg9
 z9 := Tryz.sizeOf9
 v9 := Tryz.zeroValue9
 t22 := Tryz.underlying27
 a22 := Tryz.isAgg27
 z22 := Tryz.sizeOf27
 v22 := Tryz.zeroValue27
 t25 := Tryz.underlying156
 a25 := Tryz.isAgg156
 z25 := Tryz.sizeOf156
 v25 := Tryz.zeroValue156
 t39 := Tryz.underlying205
 a39 := Tryz.isAgg205
 z39 := Tryz.sizeOf205
 v39 := Tryz.zeroValue205
 t45 := Tryz.underlying242
 a45 := Tryz.isAgg242
 z45 := Tryz.sizeOf242
 v45 := Tryz.zeroValue242
 t46 := Tryz.underlying243
 a46 := Tryz.isAgg243
 z46 := Tryz.sizeOf243
 v46 := Tryz.zeroValue243
 t50 := Tryz.underlying102
 a50 := Tryz.isAgg102
 z50 := Tryz.sizeOf102
 v50 := Tryz.zeroValue102
 t53 := Tryz.underlying249
 a53 := Tryz.isAgg249
 z53 := Tryz.sizeOf249
 v53 := Tryz.zeroValue249
 t55 := Tryz.underlying251
 a55 := Tryz.isAgg251
 z55 := Tryz.sizeOf251
 v55 := Tryz.zeroValue251
 t66 := Tryz.underlying269
 a66 := Tryz.isAgg269
 z66 := Tryz.sizeOf269
 v66 := Tryz.zeroValue269
 t70 := Tryz.underlying273
 a70 := Tryz.isAgg273
 z70 := Tryz.sizeOf273
 v70 := Tryz.zeroValue273
 t76 := Tryz.underlying297
 a76 := Tryz.isAgg297
 z76 := Tryz.sizeOf297
 v76 := Tryz.zeroValue297
 t77 := Tryz.underlying195
 a77 := Tryz.isAgg195
 z77 := Tryz.sizeOf195
 v77 := Tryz.zeroValue195 }
end Go.Proofs
/- Pairs cloned and put in order by the library, as value.Map asks it to. -/
/- slices.Clone and slices.SortFunc over pairs that hold trees. -/
namespace Go.Proofs.YteimbjamnfkapaaGreatDoor
open Go.RowKit Go.Shelf Go.Sort
abbrev PE := ByteArray × Int × Int × ByteArray × (Option Addr × Nat × Nat) × (Option Addr × Nat × Nat)
def encP (e : PE) : List Value := [.string e.1, .int .i64 e.2.1, .int .i64 e.2.2.1, .string e.2.2.2.1, .slice e.2.2.2.2.1.1 e.2.2.2.2.1.2.1 e.2.2.2.2.1.2.2, .slice e.2.2.2.2.2.1 e.2.2.2.2.2.2.1 e.2.2.2.2.2.2.2]
def slc : Value → Option Addr × Nat × Nat | .slice o n c => (o, n, c) | _ => (none, 0, 0)
def peOf (c : ByteArray) (t : VT) (x y : Value) : PE := (c, t.kd, t.nm, t.st, slc x, slc y)
theorem enc_pe (c : ByteArray) (t : VT) (o1 : Option Addr) (n1 c1 : Nat) (o2 : Option Addr) (n2 c2 : Nat) : encP (peOf c t (.slice o1 n1 c1) (.slice o2 n2 c2)) = [.string c, .int .i64 t.kd, .int .i64 t.nm, .string t.st, .slice o1 n1 c1, .slice o2 n2 c2] := rfl
theorem enc_len (e : PE) : (encP e).length = 6 := rfl
theorem enc_one (e : PE) : ∀ v ∈ encP e, v.oneCell' = true := by
 intro v hv
 simp only [encP, List.mem_cons, List.not_mem_nil, or_false] at hv
 rcases hv with rfl | rfl | rfl | rfl | rfl | rfl <;> rfl
def cfP (x y : PE) : Int := Lib.compareBytes x.1.data.toList y.1.data.toList
theorem cmp_lt : ∀ a b : List UInt8, (decide (Lib.compareBytes a b < 0)) = ltB a b
 | [], [] => rfl
 | [], _ :: _ => rfl
 | _ :: _, [] => rfl
 | a :: l, b :: m => by
  rw [ltB_cons, Lib.compareBytes]
  by_cases h1 : a < b
  ·rw [if_pos h1, decide_eq_true h1]; rfl
  ·rw [if_neg h1, decide_eq_false h1]
   by_cases h2 : b < a
   ·have h3 : (a == b) = false := by rw [beq_eq_false_iff_ne]; rintro rfl; exact h1 h2
    rw [if_pos h2, h3]; rfl
   ·have h3 : a = b := UInt8.le_antisymm (by simpa using h2) (by simpa using h1)
    rw [if_neg h2, cmp_lt l m, h3]; simp
theorem ltP (x y : PE) : ltOf cfP x y = ltB x.1.data.toList y.1.data.toList := cmp_lt _ _
theorem ltB_nt (a b c : List UInt8) (h1 : ltB a b = false) (h2 : ltB b c = false) : ltB a c = false := by
 cases h : ltB a c with
 | false => rfl
 | true =>
  rcases ltB_tri b c with ⟨h3, _, _⟩ | h3 | ⟨_, h3, _⟩
  ·rw [h2] at h3; cases h3
  ·rw [h3] at h1; rw [h1] at h; cases h
  ·have := ltB_trans a c b h h3; rw [h1] at this; cases this
theorem swoP : SWO (ltOf cfP) where
 irrefl x := by rw [ltP]; exact ltB_irr _
 trans x y z h1 h2 := by rw [ltP] at *; exact ltB_trans _ _ _ h1 h2
 ntrans x y z h1 h2 := by rw [ltP] at *; exact ltB_nt _ _ _ h1 h2
theorem chg_sort (w : World) (b o n : Nat) (d : Array PE) (os : Array Obj) : Chg b (b + 1) w (sortWorldK encP 6 w b o n d os) := by
 refine ⟨rfl, rfl, rfl, size_sortWorldK_c encP 6 w b o n d os, fun k hk hn => ?_⟩
 show ((w.heap.modify b _) ++ os)[k]? = _
 rw [Array.getElem?_append_left (by simpa using hk), Array.getElem?_modify, if_neg (by omega)]
theorem perm_lift {α β : Type} (f : α → β) : ∀ {l' l : List β}, l'.Perm l → ∀ A : List α, A.map f = l → ∃ A' : List α, A'.Perm A ∧ A'.map f = l' := by
 intro l' l h
 induction h with
 | nil => intro A hA; exact ⟨A, List.Perm.refl _, hA⟩
 | cons x _ ih =>
  intro A hA
  cases A with
  | nil => simp at hA
  | cons a r =>
   simp at hA
   obtain ⟨A', h1, h2⟩ := ih r hA.2
   exact ⟨a :: A', h1.cons a, by simp [h2, hA.1]⟩
 | swap x y l =>
  intro A hA
  match A, hA with
  | a :: b :: r, hA =>
   simp at hA
   exact ⟨b :: a :: r, List.Perm.swap a b r, by simp [hA.1, hA.2.1, hA.2.2]⟩
 | trans _ _ ih1 ih2 =>
  intro A hA
  obtain ⟨B, h1, h2⟩ := ih2 A hA
  obtain ⟨C, h3, h4⟩ := ih1 B h2
  exact ⟨C, h3.trans h1, h4⟩
end Go.Proofs.YteimbjamnfkapaaGreatDoor
namespace Go.Proofs.YteimbjamnfkapaaGreatDoor
open Go.RowKit Go.Shelf Go.Sort
def RelP (w : World) (x : PE × (ByteArray × VT)) : Prop := x.1.1 = x.2.1 ∧ x.2.1.size ≤ maxLen ∧ x.1.2.1 = x.2.2.kd ∧ x.1.2.2.1 = x.2.2.nm ∧ x.1.2.2.2.1 = x.2.2.st ∧ HV w x.2.2 (.slice x.1.2.2.2.2.1.1 x.1.2.2.2.2.1.2.1 x.1.2.2.2.2.1.2.2) (.slice x.1.2.2.2.2.2.1 x.1.2.2.2.2.2.2.1 x.1.2.2.2.2.2.2.2)
def Held (w0 w : World) (g : Nat) (A : List (ByteArray × VT)) : Prop := ∃ (d : Array PE) (D : List (PE × (ByteArray × VT))), HoldsK encP 6 w g 0 d ∧ D.map (·.1) = d.toList ∧ D.map (·.2) = A ∧ ∀ x ∈ D, RelP w0 x
end Go.Proofs.YteimbjamnfkapaaGreatDoor
