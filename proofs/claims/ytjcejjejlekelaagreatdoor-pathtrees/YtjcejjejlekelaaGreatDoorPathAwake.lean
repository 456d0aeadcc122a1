/- What every law of paths asks first: awake, walked. -/
import Derived.Test.YtjcejjejlekelaaGreatDoorPathRow
import Derived.Test.YtjcejjejlekelaaGreatDoorPathFind
import Derived.Test.YtjcejjejlekelaaGreatDoorPathZ8
import Derived.Test.YtjcejjejlekelaaGreatDoorPathDel
import Derived.Test.YtjcejjejlekelaaGreatDoorPathEvery
import Derived.Test.YtjcejjejlekelaaGreatDoorVBox
import Derived.Test.YtjcejjejlekelaaGreatDoorMathSteps
import Derived.Test.YtjcejjejlekelaaGreatDoorOrders
namespace Go.Proofs.YtjcejjejlekelaaGreatDoor
open Go.RowKit

def pA : List PStep := [kyS cRA, plS 1]
theorem st_a : stepT (kyS cRA) = [97] := by kernel_rfl
theorem st_1 : stepT (plS 1) = [49] := by
  show Lib.itoa ((1 : Nat) : Int) = _
  rw [Lib.itoa_nonneg, Lib.decDigits_one (by omega)]; rfl
theorem st_3 : stepT (plS 3) = [51] := by
  show Lib.itoa ((3 : Nat) : Int) = _
  rw [Lib.itoa_nonneg, Lib.decDigits_one (by omega)]; rfl
theorem pA_frm : ∀ s ∈ pA, Frm s := by
  intro s hs
  simp only [pA, List.mem_cons, List.not_mem_nil, or_false] at hs
  rcases hs with rfl | rfl
  · exact Or.inr ⟨rfl, rfl⟩
  · exact Or.inl ⟨rfl, rfl, by decide, by decide⟩
theorem pA_text : textP pA = [47, 97, 47, 49] := by
  show 47 :: stepT (kyS cRA) ++ (47 :: stepT (plS 1) ++ []) = _
  rw [st_a, st_1]; rfl
theorem pA_parse : parseP [47, 97, 47, 49] = some pA := by rw [← pA_text]; exact parse_text pA_frm
def cAB : ByteArray := ⟨#[97, 47, 98]⟩
def cK3 : ByteArray := ⟨#[51]⟩
theorem pB_text : textP [kyS cAB, plS 3] = [47, 97, 126, 49, 98, 47, 51] := by
  show 47 :: stepT (kyS cAB) ++ (47 :: stepT (plS 3) ++ []) = _
  rw [st_3, show stepT (kyS cAB) = [97, 126, 49, 98] by kernel_rfl]; rfl
theorem pC_text : textP [kyS cK3] = [47, 126, 107, 51] := by kernel_rfl
def tR2 : VT := leafT 2 2 ⟨#[]⟩
def tR9 : VT := leafT 2 9 ⟨#[]⟩
def tRowS : VT := .mk 6 0 ⟨#[]⟩ [] [cRA] [.mk 5 0 ⟨#[]⟩ [leafT 2 1 ⟨#[]⟩, tR9] [] []]
def tRowD : VT := .mk 6 0 ⟨#[]⟩ [] [cRA] [.mk 5 0 ⟨#[]⟩ [leafT 2 1 ⟨#[]⟩] [] []]
theorem row_get : getP tRow pA = some tR2 := by kernel_rfl
theorem row_set : setP tRow pA tR9 = some tRowS := by kernel_rfl
theorem row_drop : dropP tRow pA = some tRowD := by kernel_rfl
theorem row_all : allT tRow [] = [[], [kyS cRA], [kyS cRA, plS 0], [kyS cRA, plS 1]] := by kernel_rfl
/-- a path of two steps just written down -/
theorem inp_two (w : World) (k1 k2 : ByteArray) (a1 a2 : Int) (p1 p2 : Bool) (t : TypeId) (h1 : k1.size ≤ maxLen) (h2 : k2.size ≤ maxLen) : InP (w.alloc (.cells #[.string k1, .int .i64 a1, .bool p1, .string k2, .int .i64 a2, .bool p2] t)) [⟨k1, a1, p1⟩, ⟨k2, a2, p2⟩] (.slice (some ⟨w.heap.size, 0, none⟩) 2 2) := by
  refine ⟨⟨w.heap.size, 0, none⟩, ⟨_, _, rfl, Nat.le_refl _, by decide, fun _ => rfl⟩, fun i s hs => ?_⟩
  rw [add_at]
  match i, hs with
  | 0, hs => simp at hs; subst hs; exact ⟨cells_in rfl rfl rfl, cells_in rfl rfl rfl, cells_in rfl rfl rfl, h1⟩
  | 1, hs => simp at hs; subst hs; exact ⟨cells_in rfl rfl rfl, cells_in rfl rfl rfl, cells_in rfl rfl rfl, h2⟩
  | i + 2, hs => simp at hs
theorem inp_one (w : World) (k1 : ByteArray) (a1 : Int) (p1 : Bool) (t : TypeId) (h1 : k1.size ≤ maxLen) : InP (w.alloc (.cells #[.string k1, .int .i64 a1, .bool p1] t)) [⟨k1, a1, p1⟩] (.slice (some ⟨w.heap.size, 0, none⟩) 1 1) := by
  refine ⟨⟨w.heap.size, 0, none⟩, ⟨_, _, rfl, Nat.le_refl _, by decide, fun _ => rfl⟩, fun i s hs => ?_⟩
  rw [add_at]
  match i, hs with
  | 0, hs => simp at hs; subst hs; exact ⟨cells_in rfl rfl rfl, cells_in rfl rfl rfl, cells_in rfl rfl rfl, h1⟩
  | i + 1, hs => simp at hs
theorem own_at {w : World} {B : Nat} {ty : TypeId} {v : Value} {n : Nat} {xs : List Value} (h : w.ownsRow B ty 1 v n xs) (hn : 0 < n) : ∃ g c, v = .slice (some ⟨g, 0, none⟩) n c ∧ n ≤ c ∧ c ≤ maxLen ∧ ∀ (i : Nat) (u : Value), i < n → xs[i]? = some u → w.cell? ⟨g, i, none⟩ = some u := by
  have hc := h
  rcases hc with ⟨-, ⟨rfl, h0⟩ | ⟨g, cap, cur, rfl, -, -, hn, hcm, -, -⟩⟩
  · omega
  · refine ⟨g, cap, rfl, hn, hcm, fun i u hi hu => ?_⟩
    rw [h.cellAt i (by omega)]; exact hu
theorem inp_at {w : World} {p : List PStep} {a : Addr} {n c i : Nat} {s : PStep} (h : InP w p (.slice (some a) n c)) (hi : p[i]? = some s) : w.cell? (a.add (i * 3)) = some (.string s.key) ∧ w.cell? ⟨(a.add (i * 3)).block, (a.add (i * 3)).off + 1, none⟩ = some (.int .i64 s.at_) ∧ w.cell? ⟨(a.add (i * 3)).block, (a.add (i * 3)).off + 2, none⟩ = some (.bool s.place) := by
  obtain ⟨b, ⟨o, cap, e, -, -, ho⟩, hc⟩ := h
  injection e with e1 e2 e3
  have := ho (by have := lt_of_some hi; omega)
  rw [this] at e1
  injection e1 with e1
  subst e1
  have := hc i s hi
  exact ⟨this.1, this.2.1, this.2.2.1⟩
/-- a map of one list: where its list lies, and the numbers in it -/
theorem row_cells {w : World} {c : ByteArray} {L : List VT} {x y : Value} (h : HV w (.mk 6 0 ⟨#[]⟩ [] [c] [.mk 5 0 ⟨#[]⟩ L [] []]) x y) : ∃ (a : Addr) (cap : Nat) (al : Addr) (o : Option Addr) (cl : Nat), y = .slice (some a) 1 cap ∧ w.cell? ⟨a.block, a.off + 4, none⟩ = some (.slice o L.length cl) ∧ ∀ (i : Nat) (t : VT), L[i]? = some t → o = some al ∧ w.cell? ⟨(al.add (i * 5)).block, (al.add (i * 5)).off + 1, none⟩ = some (.int .i64 t.nm) := by
  have hm : InM w [c] [.mk 5 0 ⟨#[]⟩ L [] []] y := h.inM
  obtain ⟨a, p, q, ⟨o, cap, rfl, -, -, ho⟩, -, cK, cM, cH⟩ := hm
  have h1 := cM 0 (.mk 5 0 ⟨#[]⟩ L [] []) rfl
  have h2 : InL w L (p 0) := (cH 0 (.mk 5 0 ⟨#[]⟩ L [] []) rfl).inL
  obtain ⟨al, f, g, ⟨ol, cl, hx, -, -, hol⟩, cL, -⟩ := h2
  have h4 := h1.2.2.2.1
  rw [hx] at h4
  refine ⟨a, cap, al, ol, cl, by rw [ho (by simp)]; rfl, ?_, fun i t ht => ⟨hol (by have := lt_of_some ht; omega), (cL i t ht).2.1⟩⟩
  simpa [Addr.add, nx] using h4
set_option maxRecDepth 100000 in
set_option maxHeartbeats 8000000 in
theorem pawake_any (w : World) (hg : Glob5 w) : Calls Tryz.prog 10 #[] w fun e w' => e = .returned (.bool true) ∧ Below w.heap.size w w' := by
  have HG := hid hg
  clear hg
  go_enter Tryz.func10, Tryz.ntmps10
  go_wp2_with fail
  have IP := hid (inp_two w ⟨#[97]⟩ ⟨#[]⟩ 0 1 false true 36 (by decide) (by decide))
  have HB := hid (valloc_bel (Below.refl w.heap.size w) (.cells #[.string ⟨#[97]⟩, .int .i64 0, .bool false, .string ⟨#[]⟩, .int .i64 1, .bool true] 36))
  generalize (w.alloc (.cells #[.string ⟨#[97]⟩, .int .i64 0, .bool false, .string ⟨#[]⟩, .int .i64 1, .bool true] 36)) = w1 at IP HB ⊢
  go_at_call 11
  refine (parse_any _ _ (HG.out.on HB.out) (by decide)).mono ?_
  rintro e w2 ⟨hpp, hb2⟩
  rcases hpp with ⟨v, p', hp1, rfl, hp2⟩ | ⟨hp1, -⟩
  rotate_left
  · rw [show (⟨#[47, 97, 47, 49]⟩ : ByteArray).data.toList = [47, 97, 47, 49] from rfl, pA_parse] at hp1; cases hp1
  rw [show (⟨#[47, 97, 47, 49]⟩ : ByteArray).data.toList = [47, 97, 47, 49] from rfl, pA_parse] at hp1
  injection hp1 with hp1
  subst hp1
  obtain ⟨aq, ⟨oq, cq, rfl, hq1, hq2, hq3⟩, hqc⟩ := hp2
  have IQ : Hid (InP w2 pA (.slice oq pA.length cq)) := hid ⟨aq, ⟨oq, cq, rfl, hq1, hq2, hq3⟩, hqc⟩
  obtain rfl := hq3 (by decide)
  have IP2 := hid (IP.out.onto hb2)
  have HB2 := hid (vonto HB.out hb2)
  clear hq1 hq2 hq3 hqc hb2 IP HB
  go_wp2_with fail
  go_at_call 13
  refine (prow_any _).mono ?_
  rintro e w3 ⟨ro, rn, rc, rfl, hr3, hb3⟩
  have IP3 := hid (IP2.out.onto hb3)
  have IQ3 := hid (IQ.out.onto hb3)
  have HB3 := hid (vonto HB2.out hb3)
  have HR3 := hid hr3
  clear hr3 hb3 IP2 IQ HB2
  go_wp2_with fail
  go_at_call 12
  refine (pget_any tRow _ _ pA _ _ HR3.out (by decide) IP3.out).mono ?_
  rintro e w4 ⟨R, X, Y, rfl, hR, hf4, hb4⟩
  rw [row_get] at hR ⊢
  subst hR
  obtain ⟨xo1, xn1, xc1, xo2, xn2, xc2, rfl, rfl⟩ := hv_slices hf4.hv
  simp only [vv, Option.getD_some, Option.isSome_some, tR2, leafT, VT.kd, VT.nm, VT.st] at hf4 ⊢
  have hal := valloc_bel (Below.refl w4.heap.size w4) (.cells #[.int .i64 2, .int .i64 2, .string ⟨#[]⟩, .slice xo1 xn1 xc1, .slice xo2 xn2 xc2] 31)
  have B4 := hid (bx_new hf4.hv 31)
  have IP4 := hid ((IP3.out.onto hb4).onto hal)
  have IQ4 := hid ((IQ3.out.onto hb4).onto hal)
  have HB4 := hid (vonto (vonto HB3.out hb4) hal)
  simp only [VT.kd, VT.nm, VT.st] at B4
  clear hf4 hb4 hal HR3 IP3 IQ3 HB3
  go_wp2_with fail
  generalize (w4.alloc (.cells #[.int .i64 2, .int .i64 2, .string ⟨#[]⟩, .slice xo1 xn1 xc1, .slice xo2 xn2 xc2] 31)) = w5 at B4 IP4 IQ4 HB4 ⊢
  generalize w4.heap.size = b4 at B4 ⊢
  go_at_call 13
  refine (prow_any _).mono ?_
  rintro e w6 ⟨so, sn, sc, rfl, hr6, hb6⟩
  have IP6 := hid (IP4.out.onto hb6)
  have IQ6 := hid (IQ4.out.onto hb6)
  have HB6 := hid (vonto HB4.out hb6)
  have B46 := hid (B4.out.onto hb6)
  have HR6 := hid hr6
  clear hr6 hb6 IP4 IQ4 HB4 B4
  go_wp2_with fail
  go_at_call 14
  refine (pset_any tRow tR9 _ _ _ _ pA _ _ HR6.out (by decide) (hv_leaf _ _ _ _ (by decide) (by decide) (by decide)) (by decide) IP6.out (by decide)).mono ?_
  rintro e w7 ⟨R, X, Y, rfl, hR, hf7, hb7⟩
  rw [row_set] at hR ⊢
  subst hR
  obtain ⟨yo1, yn1, yc1, yo2, yn2, yc2, rfl, rfl⟩ := hv_slices hf7.hv
  simp only [vv, Option.getD_some, eN, tRowS, VT.kd, VT.nm, VT.st] at hf7 ⊢
  have hal := valloc_bel (Below.refl w7.heap.size w7) (.cells #[.int .i64 6, .int .i64 0, .string ⟨#[]⟩, .slice yo1 yn1 yc1, .slice yo2 yn2 yc2] 31)
  have B7 := hid (bx_new hf7.hv 31)
  have B47 := hid ((B46.out.onto hb7).onto hal)
  have IP7 := hid ((IP6.out.onto hb7).onto hal)
  have IQ7 := hid ((IQ6.out.onto hb7).onto hal)
  have HB7 := hid (vonto (vonto HB6.out hb7) hal)
  simp only [VT.kd, VT.nm, VT.st] at B7
  clear hf7 hb7 hal HR6 IP6 IQ6 HB6 B46
  go_wp2_with fail
  generalize (w7.alloc (.cells #[.int .i64 6, .int .i64 0, .string ⟨#[]⟩, .slice yo1 yn1 yc1, .slice yo2 yn2 yc2] 31)) = w8 at B7 B47 IP7 IQ7 HB7 ⊢
  generalize w7.heap.size = b7 at B7 ⊢
  go_at_call 13
  refine (prow_any _).mono ?_
  rintro e w9 ⟨to1, tn, tc, rfl, hr9, hb9⟩
  have IP9 := hid (IP7.out.onto hb9)
  have IQ9 := hid (IQ7.out.onto hb9)
  have HB9 := hid (vonto HB7.out hb9)
  have B49 := hid (B47.out.onto hb9)
  have B79 := hid (B7.out.onto hb9)
  have HR9 := hid hr9
  clear hr9 hb9 IP7 IQ7 HB7 B47 B7
  go_wp2_with fail
  go_at_call 15
  refine (pdrop_any tRow _ _ pA _ _ HR9.out (by decide) IP9.out (by decide)).mono ?_
  rintro e w10 ⟨R, X, Y, rfl, hR, hf10, hb10⟩
  rw [row_drop] at hR ⊢
  subst hR
  obtain ⟨zo1, zn1, zc1, zo2, zn2, zc2, rfl, rfl⟩ := hv_slices hf10.hv
  simp only [vv, Option.getD_some, eN, tRowD, VT.kd, VT.nm, VT.st] at hf10 ⊢
  have hal := valloc_bel (Below.refl w10.heap.size w10) (.cells #[.int .i64 6, .int .i64 0, .string ⟨#[]⟩, .slice zo1 zn1 zc1, .slice zo2 zn2 zc2] 31)
  have B10 := hid (bx_new hf10.hv 31)
  have B4a := hid ((B49.out.onto hb10).onto hal)
  have B7a := hid ((B79.out.onto hb10).onto hal)
  have IPa := hid ((IP9.out.onto hb10).onto hal)
  have IQa := hid ((IQ9.out.onto hb10).onto hal)
  have HBa := hid (vonto (vonto HB9.out hb10) hal)
  simp only [VT.kd, VT.nm, VT.st] at B10
  clear hf10 hb10 hal HR9 IP9 IQ9 HB9 B49 B79
  go_wp2_with fail
  generalize (w10.alloc (.cells #[.int .i64 6, .int .i64 0, .string ⟨#[]⟩, .slice zo1 zn1 zc1, .slice zo2 zn2 zc2] 31)) = w11 at B10 B4a B7a IPa IQa HBa ⊢
  generalize w10.heap.size = b10 at B10 ⊢
  go_at_call 13
  refine (prow_any _).mono ?_
  rintro e w12 ⟨uo, un, uc, rfl, hr12, hb12⟩
  go_wp2_with fail
  go_at_call 31
  refine (pall_any tRow _ _ _ hr12 (by decide)).mono ?_
  rintro e w13 ⟨v, E, rfl, hO, hE, hM, hb13⟩
  have hbx := vonto hb12 hb13
  have B4b := hid (B4a.out.onto hbx)
  have B7b := hid (B7a.out.onto hbx)
  have Bab := hid (B10.out.onto hbx)
  have IPb := hid (IPa.out.onto hbx)
  have IQb := hid (IQa.out.onto hbx)
  have HBb := hid (vonto HBa.out hbx)
  clear hr12 hb12 hb13 hbx B4a B7a B10 IPa IQa HBa
  rw [row_all] at hM
  obtain ⟨e0, e1, e2, e3, rfl⟩ : ∃ e0 e1 e2 e3, E = [e0, e1, e2, e3] := by
    have := congrArg List.length hM
    simp at this
    match E, this with
    | [a, b, c, d], _ => exact ⟨a, b, c, d, rfl⟩
  have h00 : e0.1 = [] := by simp at hM; exact hM.1
  have hs0 := hE e0 (by simp)
  rw [h00] at hs0
  have IE := hid (own_inp hs0 (by simp))
  obtain ⟨a0, ⟨o0, c0, he0, -, -, -⟩, -⟩ := IE.out
  rw [he0] at IE
  obtain ⟨gl, cl, rfl, -, -, hal⟩ := own_at hO (by simp)
  have hal := hal 0 e0.2 (by simp) (by simp)
  rw [he0] at hal
  have HAL := hid hal
  clear hal hO hE hM hs0 he0 h00
  go_wp2_with fail
  simp only [List.append]
  refine wp_region_h (S := fun X => Below w13.heap.size w13 X) 94 (by kernel_rfl) (by kernel_rfl) ?_
  have hS0 : Below w13.heap.size w13 w13.drew := (Below.refl _ _).drew
  refine take_h (i := 0) (v := ?_) rfl (by kernel_rfl) (by kernel_rfl) (by kernel_rfl) (fun _ _ _ h => h) (by rfl) ?_ hS0 ?_
  rotate_left
  · (intro X hX; go_simp; try with_reducible rfl)
  simp only [Act.put, List.setIfInBounds_toArray, List.set_cons_zero, List.set_cons_succ]
  refine take_h (i := 1) (v := ?_) rfl (by kernel_rfl) (by kernel_rfl) (by kernel_rfl) (fun _ _ _ h => h) (by rfl) ?_ hS0 ?_
  rotate_left
  · (intro X hX; go_simp; try with_reducible rfl)
  simp only [Act.put, List.setIfInBounds_toArray, List.set_cons_zero, List.set_cons_succ]
  refine step_h (i := 2) rfl (by kernel_rfl) ?_
  intro KK hKK
  go_simp
  have hS1 : Below w13.heap.size w13 (w13.drew.alloc (.cells #[.string ⟨#[97, 47, 98]⟩, .int .i64 0, .bool false, .string ⟨#[]⟩, .int .i64 3, .bool true] 36)) := valloc_bel hS0 _
  have I1 := inp_two w13.drew ⟨#[97, 47, 98]⟩ ⟨#[]⟩ 0 3 false true 36 (by decide) (by decide)
  refine hKK.out _ _ hS1 (fun _ => ?_)
  clear hKK KK hS0
  refine step_h (i := 3) rfl (by kernel_rfl) ?_
  intro KK hKK
  go_simp
  have hsml : ∀ s ∈ [(⟨⟨#[97, 47, 98]⟩, 0, false⟩ : PStep), ⟨⟨#[]⟩, 3, true⟩], Small s := by
    intro s hs
    simp only [List.mem_cons, List.not_mem_nil, or_false] at hs
    rcases hs with rfl | rfl <;> exact ⟨by decide, by decide, by decide⟩
  go_wp2_with (go_at_call 18; go_must (refine (ptext_any _ _ _ I1 ((HG.out.on HBb.out).on hS1) (by decide) hsml).mono ?_; rintro e w14 ⟨rfl, hb14⟩))
  rw [show mkS (textP [(⟨⟨#[97, 47, 98]⟩, 0, false⟩ : PStep), ⟨⟨#[]⟩, 3, true⟩]) = (⟨#[47, 97, 126, 49, 98, 47, 51]⟩ : ByteArray) from congrArg mkS pB_text]
  have hS2 := vonto hS1 hb14
  refine hKK.out _ _ hS2 (fun _ => ?_)
  clear hKK KK hS1 I1 hsml hb14
  refine take_h (i := 4) (v := ?_) rfl (by kernel_rfl) (by kernel_rfl) (by kernel_rfl) (fun _ _ _ h => h) (by rfl) ?_ hS2 ?_
  rotate_left
  · (intro X hX; go_simp; try with_reducible rfl)
  simp only [Act.put, List.setIfInBounds_toArray, List.set_cons_zero, List.set_cons_succ]
  refine take_h (i := 5) (v := ?_) rfl (by kernel_rfl) (by kernel_rfl) (by kernel_rfl) (fun _ _ _ h => h) (by rfl) ?_ hS2 ?_
  rotate_left
  · (intro X hX; go_simp; try with_reducible rfl)
  simp only [Act.put, List.setIfInBounds_toArray, List.set_cons_zero, List.set_cons_succ]
  refine take_h (i := 6) (v := ?_) rfl (by kernel_rfl) (by kernel_rfl) (by kernel_rfl) (fun _ _ _ h => h) (by rfl) ?_ hS2 ?_
  rotate_left
  · (intro X hX; go_simp; try with_reducible rfl)
  simp only [Act.put, List.setIfInBounds_toArray, List.set_cons_zero, List.set_cons_succ]
  refine step_h (i := 7) rfl (by kernel_rfl) ?_
  intro KK hKK
  go_simp
  have hS3 : Below w13.heap.size w13 (w14.alloc (.cells #[.string ⟨#[51]⟩, .int .i64 0, .bool false] 36)) := valloc_bel hS2 _
  have I2 := inp_one w14 ⟨#[51]⟩ 0 false 36 (by decide)
  refine hKK.out _ _ hS3 (fun _ => ?_)
  clear hKK KK hS2
  refine step_h (i := 8) rfl (by kernel_rfl) ?_
  intro KK hKK
  go_simp
  have hsml : ∀ s ∈ [(⟨⟨#[51]⟩, 0, false⟩ : PStep)], Small s := by
    intro s hs
    simp only [List.mem_cons, List.not_mem_nil, or_false] at hs
    subst hs; exact ⟨by decide, by decide, by decide⟩
  go_wp2_with (go_at_call 18; go_must (refine (ptext_any _ _ _ I2 ((HG.out.on HBb.out).on hS3) (by decide) hsml).mono ?_; rintro e w15 ⟨rfl, hb15⟩))
  rw [show mkS (textP [(⟨⟨#[51]⟩, 0, false⟩ : PStep)]) = (⟨#[47, 126, 107, 51]⟩ : ByteArray) from congrArg mkS pC_text]
  have hS4 := vonto hS3 hb15
  refine hKK.out _ _ hS4 (fun _ => ?_)
  clear hKK KK hS3 I2 hsml hb15
  have HW := hid (vonto HBb.out hS4)
  have IPc := hid (IPb.out.onto hS4)
  have IQc := hid (IQb.out.onto hS4)
  have IEc := hid (IE.out.onto hS4)
  have kAL := keepCell hS4 HAL.out
  obtain ⟨-, k41, -, -, -⟩ := (B4b.out.onto hS4).cells
  obtain ⟨-, -, -, -, k74⟩ := (B7b.out.onto hS4).cells
  obtain ⟨-, -, -, -, kA4⟩ := (Bab.out.onto hS4).cells
  obtain ⟨a7, c7, l7, m7, d7, hy7, f7, g7⟩ := row_cells (B7b.out.onto hS4).2
  obtain ⟨aA, cA7, lA, mA, dA, hyA, fA, gA⟩ := row_cells (Bab.out.onto hS4).2
  injection hy7 with hy1 hy2 hy3
  subst hy1 hy2 hy3
  injection hyA with hz1 hz2 hz3
  subst hz1 hz2 hz3
  obtain ⟨hl7, g7b⟩ := g7 1 tR9 rfl
  subst hl7
  obtain ⟨q30, q31, q32⟩ := inp_at IQc.out (i := 1) (s := plS 1) rfl
  obtain ⟨p30, p31, p32⟩ := inp_at IPc.out (i := 1) (s := ⟨⟨#[]⟩, 1, true⟩) rfl
  simp only [VT.nm, tR9, leafT, List.length_cons, List.length_nil, plS, add_at, Nat.reduceMul, Nat.reduceAdd, Nat.zero_add] at k41 f7 g7b fA q30 q31 q32 p30 p31 p32
  simp [Addr.add] at q30 q31 q32 g7b
  have hpl : pA.length = 2 := rfl
  rw [hpl] at IQc ⊢
  clear gA B4b B7b Bab IPb IQb HBb IE HAL
  have cK := above_cell kAL
  have c41 := above_cell k41; have c74 := above_cell k74; have cA4 := above_cell kA4
  have cf7 := above_cell f7; have cg7 := above_cell g7b; have cfA := above_cell fA
  have d0 := above_cell q30; have d1 := above_cell q31; have d2 := above_cell q32
  have e0 := above_cell p30; have e1 := above_cell p31; have e2 := above_cell p32
  have cC := hid (fun X : Abv w15 => pcmp_any _ _ _ _ X.u (IPc.out.onto X.h) (IQc.out.onto X.h))
  have cD := hid (fun X : Abv w15 => pcmp_any _ _ _ _ X.u (IEc.out.onto X.h) (IPc.out.onto X.h))
  rw [show cmpP [(⟨⟨#[97]⟩, 0, false⟩ : PStep), ⟨⟨#[]⟩, 1, true⟩] pA = 0 from cp_refl pA] at cC
  rw [show cmpP [] [(⟨⟨#[97]⟩, 0, false⟩ : PStep), ⟨⟨#[]⟩, 1, true⟩] = -1 from rfl] at cD
  have hinh := abv_some w15
  clear kAL k41 k74 kA4 f7 g7 g7b fA q30 q31 q32 p30 p31 p32
  refine any_quiet2 (C := fun w' => ∃ x : Abv w15, w' = x.u) 9 85 ((((((((((FirstK.start 94).next).next).next).next).next).next).next).next).next) (by kernel_rfl) (by kernel_rfl) (by kernel_rfl) ⟨⟨w15, Below.refl _ _⟩, rfl⟩ ?_ ?_
  · intro w hw
    obtain ⟨x, rfl⟩ := hw
    exact vonto hS4 x.h
  simp only [List.drop_succ_cons, List.drop_zero]
  clear hS4
  repeat (go_big_quiet_step ((go_at_call 22; first | with_reducible exact above_of (cC.out _) | with_reducible exact above_of (cD.out _))))
  refine wpQuiet_nil ?_
  intro _ hw'
  obtain ⟨X2, hX2⟩ := hw'
  subst hX2
  clear cK c41 c74 cA4 cf7 cg7 cfA d0 d1 d2 e0 e1 e2
  go_wp2_with fail
  go_ret
  exact ⟨rfl, vonto HW.out X2.h⟩
end Go.Proofs.YtjcejjejlekelaaGreatDoor
