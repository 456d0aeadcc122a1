/- The statements of stage 12: values laid; what they ask first. -/
import Derived.Test.YtiaepihdfbahaaaGreatDoorARpH
import Derived.Test.YtiaepihdfbahaaaGreatDoorARefVal5
import Derived.Test.YtiaepihdfbahaaaGreatDoorARpD
import Derived.Handed
import Derived.HandedShaped
import Derived.Test.YtiaepihdfbahaaaGreatDoorATlK
import Derived.Test.YtiaepihdfbahaaaGreatDoorRows
import Derived.Stop.LaidErr
import Derived.LaidSub
import Derived.MakeChecks
import Derived.Lib.LaidU8
import Derived.Shelf.Vars
import Derived.WideShapes
import Derived.Lib.LaidTab
import Derived.Test.YtiaepihdfbahaaaGreatDoorAVSameT
/- The statements of stage 12: what they ask first; TprintSays. -/
/- What the laws' list of variables and the world's shape give: the library's two errors, its greatest length, the heads of ints that say their base. -/
/- What the laws' list of variables and the world's shape give at stage 12. -/
/- An argument that is a value: its tree. -/
namespace Go.Proofs.YtiaepihdfbahaaaGreatDoor
open Go.RowKit

def GlobT12 (w : World) : Prop := GlobN w ∧ GlobW w
theorem GlobT12.on {w w' : World} (h : GlobT12 w) (hb : Below w.heap.size w w') : GlobT12 w' := ⟨h.1.on hb, h.2.on hb⟩
set_option maxRecDepth 100000 in
set_option maxHeartbeats 400000 in
theorem lnum_any (n : Int) (w : World) :
    Calls Tryz.prog 8 #[.int .i64 n] w fun e w' => e = .returned (.agg #[.int .i64 2, .int .i64 n, .string ⟨#[]⟩, .slice none 0 0, .slice none 0 0]) ∧ Below w.heap.size w w' := by
  go_enter Tryz.func8, Tryz.ntmps8
  go_wp2_with fail
  refine bodyPost_ret (v := .agg #[.int .i64 2, .int .i64 n, .string ⟨#[]⟩, .slice none 0 0, .slice none 0 0]) (by simp [results, Tryz.results8, go_sem]) rfl ⟨rfl, ?_⟩
  repeat (first | exact Below.refl _ _ | apply valloc_bel | (refine vset_bel ?_ (by simp)))
set_option maxRecDepth 100000 in
set_option maxHeartbeats 400000 in
theorem lmap_any (o : Option Addr) (n c : Nat) (w : World) :
    Calls Tryz.prog 6 #[.slice o n c] w fun e w' => e = .returned (.agg #[.int .i64 6, .int .i64 0, .string ⟨#[]⟩, .slice none 0 0, .slice o n c]) ∧ Below w.heap.size w w' := by
  go_enter Tryz.func6, Tryz.ntmps6
  go_wp2_with fail
  refine bodyPost_ret (v := .agg #[.int .i64 6, .int .i64 0, .string ⟨#[]⟩, .slice none 0 0, .slice o n c]) (by simp [results, Tryz.results6, go_sem]) rfl ⟨rfl, ?_⟩
  repeat (first | exact Below.refl _ _ | apply valloc_bel | (refine vset_bel ?_ (by simp)))
set_option maxRecDepth 100000 in
set_option maxHeartbeats 400000 in
theorem lpair_any (key : ByteArray) (k m : Int) (s : ByteArray) (o1 o2 : Option Addr) (n1 c1 n2 c2 : Nat) (w : World) :
    Calls Tryz.prog 7 #[.string key, .agg #[.int .i64 k, .int .i64 m, .string s, .slice o1 n1 c1, .slice o2 n2 c2]] w fun e w' => e = .returned (.agg #[.string key, .int .i64 k, .int .i64 m, .string s, .slice o1 n1 c1, .slice o2 n2 c2]) ∧ Below w.heap.size w w' := by
  obtain ⟨g0, g1, g2, g3, g4⟩ := tpbox w (.int .i64 k) (.int .i64 m) (.string s) (.slice o1 n1 c1) (.slice o2 n2 c2)
  go_enter Tryz.func7, Tryz.ntmps7
  go_wp2_with fail
  refine bodyPost_ret (v := .agg #[.string key, .int .i64 k, .int .i64 m, .string s, .slice o1 n1 c1, .slice o2 n2 c2]) (by simp [results, Tryz.results7, go_sem]) rfl ⟨rfl, ?_⟩
  repeat (first | exact Below.refl _ _ | apply valloc_bel | (refine vset_bel ?_ (by simp)))
/-- a map of one pair -/
def m1T (c : ByteArray) (t : VT) : VT := .mk 6 0 ⟨#[]⟩ [] [c] [t]
def m2T (c d : ByteArray) (t u : VT) : VT := .mk 6 0 ⟨#[]⟩ [] [c, d] [t, u]
theorem hv_m1 {W : World} (w : World) (c : ByteArray) (t : VT) (o1 o2 : Option Addr) (n1 c1 n2 c2 : Nat) (hW : W = w.alloc (.cells #[.string c, .int .i64 t.kd, .int .i64 t.nm, .string t.st, .slice o1 n1 c1, .slice o2 n2 c2] 30)) (hc : c.size ≤ maxLen) (h : HV w t (.slice o1 n1 c1) (.slice o2 n2 c2)) : HV W (m1T c t) (.slice none 0 0) (.slice (some ⟨w.heap.size, 0, none⟩) 1 1) := by
  obtain ⟨gk, g0, g1, g2, g3, g4⟩ := tpbox6 w (.string c) (.int .i64 t.kd) (.int .i64 t.nm) (.string t.st) (.slice o1 n1 c1) (.slice o2 n2 c2)
  have hv := h.onto (valloc_bel (Below.refl w.heap.size w) (.cells #[.string c, .int .i64 t.kd, .int .i64 t.nm, .string t.st, .slice o1 n1 c1, .slice o2 n2 c2] 30))
  rw [← hW] at gk g0 g1 g2 g3 g4 hv
  refine .mk ⟨0, 0, none⟩ ⟨w.heap.size, 0, none⟩ (fun _ => .slice none 0 0) (fun _ => .slice none 0 0) (fun _ => .slice o1 n1 c1) (fun _ => .slice o2 n2 c2) (by decide) (by decide) (by decide) ⟨none, 0, rfl, Nat.le_refl _, Nat.zero_le _, fun h => absurd h (by simp)⟩ ⟨some ⟨w.heap.size, 0, none⟩, 1, rfl, Nat.le_refl _, by decide, fun _ => rfl⟩ rfl (fun i t h => by simp at h) (fun i u h => ?_) (fun i u h => ?_) (fun i t h => by simp at h) (fun i u h => ?_)
  · cases i with
    | zero =>
      simp only [List.getElem?_cons_zero, Option.some.injEq] at h
      subst h
      exact ⟨gk, hc⟩
    | succ i => simp at h
  · cases i with
    | zero =>
      simp only [List.getElem?_cons_zero, Option.some.injEq] at h
      subst h
      exact ⟨g0, g1, g2, g3, g4⟩
    | succ i => simp at h
  · cases i with
    | zero =>
      simp only [List.getElem?_cons_zero, Option.some.injEq] at h
      subst h
      exact hv
    | succ i => simp at h
theorem hv_m2 {W : World} (w : World) (c d : ByteArray) (t u : VT) (o1 o2 o3 o4 : Option Addr) (n1 c1 n2 c2 n3 c3 n4 c4 : Nat) (hW : W = w.alloc (.cells #[.string c, .int .i64 t.kd, .int .i64 t.nm, .string t.st, .slice o1 n1 c1, .slice o2 n2 c2, .string d, .int .i64 u.kd, .int .i64 u.nm, .string u.st, .slice o3 n3 c3, .slice o4 n4 c4] 30)) (hc : c.size ≤ maxLen) (hd : d.size ≤ maxLen) (h : HV w t (.slice o1 n1 c1) (.slice o2 n2 c2)) (h' : HV w u (.slice o3 n3 c3) (.slice o4 n4 c4)) : HV W (m2T c d t u) (.slice none 0 0) (.slice (some ⟨w.heap.size, 0, none⟩) 2 2) := by
  have hn := new_cells w [.string c, .int .i64 t.kd, .int .i64 t.nm, .string t.st, .slice o1 n1 c1, .slice o2 n2 c2, .string d, .int .i64 u.kd, .int .i64 u.nm, .string u.st, .slice o3 n3 c3, .slice o4 n4 c4] 30
  have hbel := valloc_bel (Below.refl w.heap.size w) (.cells #[.string c, .int .i64 t.kd, .int .i64 t.nm, .string t.st, .slice o1 n1 c1, .slice o2 n2 c2, .string d, .int .i64 u.kd, .int .i64 u.nm, .string u.st, .slice o3 n3 c3, .slice o4 n4 c4] 30)
  have hv := h.onto hbel
  have hv' := h'.onto hbel
  have hn' : ∀ (i : Nat) (v : Value), [.string c, .int .i64 t.kd, .int .i64 t.nm, .string t.st, .slice o1 n1 c1, .slice o2 n2 c2, .string d, .int .i64 u.kd, .int .i64 u.nm, .string u.st, .slice o3 n3 c3, .slice o4 n4 c4][i]? = some v → W.cell? ⟨w.heap.size, i, none⟩ = some v := fun i v hv => by
    have := hn i v hv
    rw [add_at] at this
    rw [hW]; exact this
  rw [← hW] at hv hv'
  refine .mk ⟨0, 0, none⟩ ⟨w.heap.size, 0, none⟩ (fun _ => .slice none 0 0) (fun _ => .slice none 0 0) (fun i => if i = 0 then .slice o1 n1 c1 else .slice o3 n3 c3) (fun i => if i = 0 then .slice o2 n2 c2 else .slice o4 n4 c4) (by decide) (by decide) (by decide) ⟨none, 0, rfl, Nat.le_refl _, Nat.zero_le _, fun h => absurd h (by simp)⟩ ⟨some ⟨w.heap.size, 0, none⟩, 2, rfl, Nat.le_refl _, by decide, fun _ => rfl⟩ rfl (fun i t h => by simp at h) (fun i x h => ?_) (fun i x h => ?_) (fun i t h => by simp at h) (fun i x h => ?_)
  · match i with
    | 0 =>
      simp only [List.getElem?_cons_zero, Option.some.injEq] at h
      subst h
      exact ⟨hn' 0 _ rfl, hc⟩
    | 1 =>
      simp only [List.getElem?_cons_zero, List.getElem?_cons_succ, Option.some.injEq] at h
      subst h
      exact ⟨hn' 6 _ rfl, hd⟩
    | i + 2 => simp at h
  · match i with
    | 0 =>
      simp only [List.getElem?_cons_zero, Option.some.injEq] at h
      subst h
      exact ⟨hn' 1 _ rfl, hn' 2 _ rfl, hn' 3 _ rfl, hn' 4 _ rfl, hn' 5 _ rfl⟩
    | 1 =>
      simp only [List.getElem?_cons_zero, List.getElem?_cons_succ, Option.some.injEq] at h
      subst h
      exact ⟨hn' 7 _ rfl, hn' 8 _ rfl, hn' 9 _ rfl, hn' 10 _ rfl, hn' 11 _ rfl⟩
    | i + 2 => simp at h
  · match i with
    | 0 =>
      simp only [List.getElem?_cons_zero, Option.some.injEq] at h
      subst h
      exact hv
    | 1 =>
      simp only [List.getElem?_cons_zero, List.getElem?_cons_succ, Option.some.injEq] at h
      subst h
      exact hv'
    | i + 2 => simp at h
theorem twa : mkS (tprB (m2T ⟨#[97]⟩ ⟨#[116]⟩ (leafT 2 1 ⟨#[]⟩) (m1T ⟨#[98]⟩ (leafT 2 2 ⟨#[]⟩)))) = ⟨#[97, 32, 61, 32, 49, 10, 10, 91, 116, 93, 10, 98, 32, 61, 32, 50, 10]⟩ := by kernel_rfl
theorem twb : tomB (m2T ⟨#[97]⟩ ⟨#[116]⟩ (leafT 2 1 ⟨#[]⟩) (m1T ⟨#[98]⟩ (leafT 2 2 ⟨#[]⟩))) = true := by kernel_rfl
theorem twc : mkS (pkB (⟨#[97, 32, 98]⟩ : ByteArray).data.toList) = ⟨#[34, 97, 32, 98, 34]⟩ ∧ mkS (pkB (⟨#[97]⟩ : ByteArray).data.toList) = ⟨#[97]⟩ := ⟨by kernel_rfl, by kernel_rfl⟩
end Go.Proofs.YtiaepihdfbahaaaGreatDoor
namespace Go.Proofs.YtiaepihdfbahaaaGreatDoor
open Go.RowKit

set_option maxRecDepth 100000 in
set_option maxHeartbeats 4000000 in
theorem awake12 (w : World) (hg : GlobT12 w) : Calls Tryz.prog 5 #[] w fun e w' => e = .returned (.bool true) ∧ Below w.heap.size w w' := by
  have CN := hid (fun n X => lnum_any n X)
  have CP := hid (fun key k m s o1 o2 n1 c1 n2 c2 X => lpair_any key k m s o1 o2 n1 c1 n2 c2 X)
  have CM := hid (fun o n c X => lmap_any o n c X)
  have PR := hid (fun (T : VT) (x y : Value) X (hX : Below w.heap.size w X) (h : HV X T x y) => tprint_any T x y X (hg.on hX).1 (hg.on hX).2 h)
  have MY := hid (fun (T : VT) (x y : Value) X (hX : Below w.heap.size w X) (h : HV X T x y) => tpmay_any T x y X (hg.on hX).1 h)
  have KY := hid (fun s X (h : s.size ≤ 100000) => tpkey_any s X h)
  have HL : Hid (∀ X n, (Lit.int .i64 n).wf = true → HV X (leafT 2 n ⟨#[]⟩) (.slice none 0 0) (.slice none 0 0)) := hid (fun X n h => hv_leaf X 2 n _ (by decide) h (by decide))
  clear hg
  go_enter Tryz.func5, Tryz.ntmps5
  go_wp2_with fail
  go_at_call 8
  refine (CN.out _ _).mono ?_
  rintro e w1 ⟨rfl, hb1⟩
  have HB1 := hid hb1
  clear hb1
  go_wp2_with fail
  go_at_call 7
  refine (CP.out _ _ _ _ _ _ _ _ _ _ _).mono ?_
  rintro e w2 ⟨rfl, hb2⟩
  have HB2 := hid (vonto HB1.out hb2)
  clear hb2
  go_wp2_with fail
  go_at_call 8
  refine (CN.out _ _).mono ?_
  rintro e w3 ⟨rfl, hb3⟩
  have HB3 := hid (vonto HB2.out hb3)
  clear hb3
  go_wp2_with fail
  go_at_call 7
  refine (CP.out _ _ _ _ _ _ _ _ _ _ _).mono ?_
  rintro e w4 ⟨rfl, hb4⟩
  have HB4 := hid (vonto HB3.out hb4)
  clear hb4
  go_wp2_with fail
  go_at_call 6
  refine (CM.out _ _ _ _).mono ?_
  rintro e w6 ⟨rfl, hb6⟩
  have HM1 := hid ((hv_m1 w4 ⟨#[98]⟩ (leafT 2 2 ⟨#[]⟩) none none 0 0 0 0 rfl (by decide) (HL.out w4 2 (by decide))).onto hb6)
  have HB6 := hid (vonto (valloc_bel HB4.out _) hb6)
  clear hb6
  go_wp2_with fail
  go_at_call 7
  refine (CP.out _ _ _ _ _ _ _ _ _ _ _).mono ?_
  rintro e w7 ⟨rfl, hb7⟩
  have HM2 := hid (HM1.out.onto hb7)
  have HB7 := hid (vonto HB6.out hb7)
  clear hb7
  go_wp2_with fail
  go_at_call 6
  refine (CM.out _ _ _ _).mono ?_
  rintro e w9 ⟨rfl, hb9⟩
  have HM3 := hid ((hv_m2 w7 ⟨#[97]⟩ ⟨#[116]⟩ (leafT 2 1 ⟨#[]⟩) (m1T ⟨#[98]⟩ (leafT 2 2 ⟨#[]⟩)) none none none (some ⟨w4.heap.size, 0, none⟩) 0 0 0 0 0 0 1 1 rfl (by decide) (by decide) (HL.out w7 1 (by decide)) HM2.out).onto hb9)
  have HB9 := hid (vonto (valloc_bel HB7.out _) hb9)
  clear hb9 CN CP CM HL HM1 HM2
  go_upto_region 2 with fail
  refine tpwp_gen ?_
  intro W hW
  obtain ⟨g0, g1, g2, g3, g4, hbW⟩ := rpbox_of hW
  have HM := hid (HM3.out.onto hbW)
  have HBW := hid (vonto HB9.out hbW)
  clear hW hbW HM3
  have P1 := hid (PR.out _ _ _ W HBW.out HM.out)
  rw [twa] at P1
  go_wp2_with fail
  go_at_call 9
  refine P1.out.mono ?_
  rintro e wa ⟨rfl, hba⟩
  have g0 := keepCell hba g0
  have g1 := keepCell hba g1
  have g2 := keepCell hba g2
  have g3 := keepCell hba g3
  have g4 := keepCell hba g4
  have HBa := hid (vonto HBW.out hba)
  have M1 := hid (MY.out _ _ _ wa HBa.out (HM.out.onto hba))
  rw [twb] at M1
  clear hba P1
  go_wp2_with fail
  go_at_call 10
  refine M1.out.mono ?_
  rintro e wb ⟨rfl, hbb⟩
  have HBb := hid (vonto HBa.out hbb)
  have K1 := hid (fun X => KY.out ⟨#[97, 32, 98]⟩ X (by decide))
  have K2 := hid (fun X => KY.out ⟨#[97]⟩ X (by decide))
  rw [twc.1] at K1
  rw [twc.2] at K2
  clear hbb M1
  go_wp2_with fail
  go_at_call 13
  refine (K1.out _).mono ?_
  rintro e wc ⟨rfl, hbc⟩
  have HBc := hid (vonto HBb.out hbc)
  clear hbc
  go_wp2_with fail
  go_at_call 13
  refine (K2.out _).mono ?_
  rintro e wd ⟨rfl, hbd⟩
  have HBd := hid (vonto HBc.out hbd)
  clear hbd
  go_wp2_with fail
  go_ret
  exact ⟨rfl, HBd.out⟩
set_option maxRecDepth 100000 in
set_option maxHeartbeats 4000000 in
theorem Tryz.tprintSays_walk (T : VT) (x y : Value) (s : ByteArray) (_ : s.size ≤ maxLen) (w : World) (hg : GlobT12 w) (hT : HV w T x y) :
    Calls Tryz.prog 4 #[vv T x y, .string s] w fun e w' => e = .returned (.bool true) ∧ Below w.heap.size w w' := by
  have CA := hid (fun X (hX : Below w.heap.size w X) => awake12 X (hg.on hX))
  have CH := hid (fun X (hX : Below w.heap.size w X) => heavy_any T x y 300 40 X (hT.onto hX) (by omega) (by omega))
  have DM := hid (fun X (hX : Below w.heap.size w X) => rpmay_any T x y X (hT.onto hX))
  have PM := hid (fun X (hX : Below w.heap.size w X) => tpmay_any T x y X (hg.on hX).1 (hT.onto hX))
  have PP := hid (fun X (hX : Below w.heap.size w X) => tprint_any T x y X (hg.on hX).1 (hg.on hX).2 (hT.onto hX))
  have PK := hid (fun X (h : s.size ≤ 100000) => tpkey_any s X h)
  have DK := hid (fun X (h : s.size ≤ 100000) => rpkey_any s X h)
  have DP : Hid (tomB T = true → ∀ X, Below w.heap.size w X → Calls Tryz.prog 15 #[vv T x y] X fun e w' => e = .returned (.string (mkS (tprB T))) ∧ Below X.heap.size X w') := hid (fun h X hX => by
    obtain ⟨-, h2, h3, h4⟩ := may_sz h
    have := rprint_any T x y X (hT.onto hX) h2 h3 h4
    rw [show bdT T [] [] = tprB T by unfold tprB; rw [if_pos h]] at this
    exact this)
  have HTN : Hid (tomB T = false → mkS (tprB T) = ⟨#[]⟩) := hid (fun h => by unfold tprB; rw [h, if_neg (by decide)]; rfl)
  obtain ⟨o1, n1, c1, o2, n2, c2, rfl, rfl⟩ := hv_slices hT
  obtain ⟨tk, tn, tt, h1, h2, h3⟩ : ∃ k n t, T.kd = k ∧ T.nm = n ∧ T.st = t := ⟨_, _, _, rfl, rfl, rfl⟩
  have CB := hid (fun X (hX : X = w.alloc (.cells #[.int .i64 tk, .int .i64 tn, .string tt, .slice o1 n1 c1, .slice o2 n2 c2] 27)) => rpbox_of hX)
  simp only [vv] at CH DM PM PP DP ⊢
  rw [h1, h2, h3] at CH DM PM PP DP ⊢
  generalize (!fitB T 40 300) = hv at CH
  obtain ⟨R, hR⟩ : ∃ R, mkS (tprB T) = R := ⟨_, rfl⟩
  rw [hR] at PP DP HTN
  generalize tomB T = q at DM PM DP HTN
  obtain ⟨KK, hKK⟩ : ∃ R, mkS (pkB s.data.toList) = R := ⟨_, rfl⟩
  rw [hKK] at PK DK
  clear h1 h2 h3 hg hT hR hKK
  go_enter Tryz.func4, Tryz.ntmps4
  go_upto_region 1 with fail
  refine tpwp_gen ?_
  intro W hW
  obtain ⟨g0, g1, g2, g3, g4, hbW⟩ := CB.out W hW
  have HB0 := hid hbW
  clear hW hbW CB
  go_wp2_with fail
  go_at_call 5
  refine (CA.out _ HB0.out).mono ?_
  rintro e w1 ⟨rfl, hb1⟩
  have g0 := keepCell hb1 g0
  have g1 := keepCell hb1 g1
  have g2 := keepCell hb1 g2
  have g3 := keepCell hb1 g3
  have g4 := keepCell hb1 g4
  have HB1 := hid (vonto HB0.out hb1)
  clear hb1 CA HB0
  go_wp2_with fail
  go_at_call 11
  refine (CH.out _ HB1.out).mono ?_
  rintro e w2 ⟨rfl, hb2⟩
  have g0 := keepCell hb2 g0
  have g1 := keepCell hb2 g1
  have g2 := keepCell hb2 g2
  have g3 := keepCell hb2 g3
  have g4 := keepCell hb2 g4
  have HB2 := hid (vonto HB1.out hb2)
  clear hb2 CH HB1
  cases hv with
  | true =>
    go_wp2_with fail
    go_ret
    exact ⟨rfl, HB2.out⟩
  | false =>
  by_cases hsz : 200 < s.size
  · have f1 : (200 : Int) < (s.size : Int) := by omega
    go_wp2_with fail
    go_ret
    exact ⟨rfl, HB2.out⟩
  have f1 : ¬ (200 : Int) < (s.size : Int) := by omega
  have hs6 : s.size ≤ 100000 := by omega
  have PK1 := hid (fun X => PK.out X hs6)
  have DK1 := hid (fun X => DK.out X hs6)
  clear PK DK
  go_wp2_with fail
  go_at_call 12
  refine (DM.out _ HB2.out).mono ?_
  rintro e w3 ⟨rfl, hb3⟩
  have g0 := keepCell hb3 g0
  have g1 := keepCell hb3 g1
  have g2 := keepCell hb3 g2
  have g3 := keepCell hb3 g3
  have g4 := keepCell hb3 g4
  have HB3 := hid (vonto HB2.out hb3)
  clear hb3 DM HB2
  go_wp2_with fail
  go_at_call 10
  refine (PM.out _ HB3.out).mono ?_
  rintro e w4 ⟨rfl, hb4⟩
  have g0 := keepCell hb4 g0
  have g1 := keepCell hb4 g1
  have g2 := keepCell hb4 g2
  have g3 := keepCell hb4 g3
  have g4 := keepCell hb4 g4
  have HB4 := hid (vonto HB3.out hb4)
  clear hb4 PM HB3
  cases q with
  | true =>
    go_wp2_with fail
    go_at_call 13
    refine (PK1.out _).mono ?_
    rintro e w5 ⟨rfl, hb5⟩
    have g0 := keepCell hb5 g0
    have g1 := keepCell hb5 g1
    have g2 := keepCell hb5 g2
    have g3 := keepCell hb5 g3
    have g4 := keepCell hb5 g4
    have HB5 := hid (vonto HB4.out hb5)
    clear hb5 PK1 HB4
    go_wp2_with fail
    go_at_call 14
    refine (DK1.out _).mono ?_
    rintro e w6 ⟨rfl, hb6⟩
    have g0 := keepCell hb6 g0
    have g1 := keepCell hb6 g1
    have g2 := keepCell hb6 g2
    have g3 := keepCell hb6 g3
    have g4 := keepCell hb6 g4
    have HB6 := hid (vonto HB5.out hb6)
    clear hb6 DK1 HB5
    have DP1 := hid (DP.out (by first | rfl | trivial))
    have KP := hid (fun X : Abv w6 => PP.out X.u (vonto HB6.out X.h))
    have KD := hid (fun X : Abv w6 => DP1.out X.u (vonto HB6.out X.h))
    have y0 := above_cell g0
    have y1 := above_cell g1
    have y2 := above_cell g2
    have y3 := above_cell g3
    have y4 := above_cell g4
    have hinh := abv_some w6
    go_upto_region 10 with fail
    clear g0 g1 g2 g3 g4 DP DP1 PP HTN
    refine wp_region_above (by kernel_rfl) (by kernel_rfl) ?_
    repeat (go_big_quiet_step ((first
      | (go_at_call 9; with_reducible exact above_of (KP.out _))
      | (go_at_call 15; with_reducible exact above_of (KD.out _)))))
    refine wpQuiet_nil ?_
    intro _ hw'
    obtain ⟨X, hX⟩ := hw'
    subst hX
    have HXB := hid (vonto HB6.out X.h)
    go_wp2_with fail
    go_ret
    exact ⟨rfl, HXB.out⟩
  | false =>
    have hr := HTN.out (by first | rfl | trivial)
    rw [hr] at PP
    clear DP HTN hr
    go_wp2_with fail
    go_at_call 13
    refine (PK1.out _).mono ?_
    rintro e w5 ⟨rfl, hb5⟩
    have g0 := keepCell hb5 g0
    have g1 := keepCell hb5 g1
    have g2 := keepCell hb5 g2
    have g3 := keepCell hb5 g3
    have g4 := keepCell hb5 g4
    have HB5 := hid (vonto HB4.out hb5)
    clear hb5 PK1 HB4
    go_wp2_with fail
    go_at_call 14
    refine (DK1.out _).mono ?_
    rintro e w6 ⟨rfl, hb6⟩
    have g0 := keepCell hb6 g0
    have g1 := keepCell hb6 g1
    have g2 := keepCell hb6 g2
    have g3 := keepCell hb6 g3
    have g4 := keepCell hb6 g4
    have HB6 := hid (vonto HB5.out hb6)
    clear hb6 DK1 HB5
    go_wp2_with fail
    go_at_call 9
    refine (PP.out _ HB6.out).mono ?_
    rintro e w7 ⟨rfl, hb7⟩
    have HB7 := hid (vonto HB6.out hb7)
    clear hb7
    go_wp2_with fail
    go_ret
    exact ⟨rfl, HB7.out⟩
end Go.Proofs.YtiaepihdfbahaaaGreatDoor
namespace Go.Proofs.YtiaepihdfbahaaaGreatDoor

theorem tshaped_and {H : Type} {enc : TypeId × Value → H} {a : Assume} {C : Checked} {os : Os} {f : FuncId} {fn : Func} {s : ChangeSpec} {conds : List PathCond} {apart fresh handsOn again : Bool} {X : World → Array Value → Prop}
    (hX : ∀ (w w' : World) (args : Array Value), w.heap = w'.heap → X w args → X w' args) (own : ownKnob C.prog.godebug = none) (started : os.Started) (noInit : C.prog.inits.idxOf? f = none) (hfn : C.prog.funcs[f]? = some fn)
    (seen : ∃ (w : World) (tape : Tape) (i : Input), w.os = os ∧ (w.forCall tape i).Shaped C.prog ∧ i.vars = [] ∧ Input.okWide C.prog (w.forCall tape i) .any w.heap.size f i ∧ ((s.pre enc C.prog fn conds apart (w.forCall tape i).memory i.args ∧ X (w.forCall tape i).memory i.args) ∧ sizedMet enc C.prog fn (OpenSpec.ofChange s) apart (w.forCall tape i).memory i.args) ∧ a.holds C.prog (lone (Frame.enter C.prog f i.args .normal) [] (w.forCall tape i)))
    (walk : ∀ (W : World) (base : Nat) (args : Array Value) (ds gs : List (DataW H)) (before : List MemPlace), (∀ (j : Nat) t v, fn.params[j]? = some t → args[j]? = some v → Value.okWide C.prog W .any base t v) → DataW.Whole enc C.prog fn.params.toList s.vars apart W args.toList ds gs before →
      conds.all (PathCond.test C.prog ⟨fn.params.toList, ds, s.plain.varTypes C.prog, gs⟩) = true → X W args → W.ShapedOpen C.prog → Calls C.prog f args W fun e W' => ∃ v, e = .returned v ∧ s.post enc C.prog fn apart fresh handsOn again W args v W') :
    ReturnsInHanded a C os f .any (fun w args => (s.pre enc C.prog fn conds apart w args ∧ X w args) ∧ sizedMet enc C.prog fn (OpenSpec.ofChange s) apart w args) (s.post enc C.prog fn apart fresh handsOn again) := by
  refine returnsInHanded_of_calls own started noInit seen fun w tape i _ shp _ wide pre _ => ?_
  obtain ⟨-, -, -, fn', hf', -, -, -, -, vals⟩ := wide
  obtain rfl : fn' = fn := Option.some.inj (hf'.symm.trans hfn)
  obtain ⟨⟨⟨ds, gs, before, whole, cond⟩, hx⟩, -⟩ := pre
  refine (walk _ w.heap.size i.args ds gs before vals (DataW.Whole.of_heap (w' := w.forCall tape i) (by rfl) whole) cond (hX _ _ _ (by rfl) hx) shp).mono ?_
  rintro e W' ⟨v, rfl, post⟩
  exact ChangeSpec.post_blind post
end Go.Proofs.YtiaepihdfbahaaaGreatDoor
namespace Go.Proofs.YtiaepihdfbahaaaGreatDoor
open Go.RowKit

theorem tls1 : Tryz.prog.globalNamed "strconv.ErrSyntax" = some 3 := by kernel_rfl
theorem tls2 : (Tryz.prog.globals[3]?).map (·.type) = some 54 := by kernel_rfl
theorem tlr1 : Tryz.prog.globalNamed "strconv.ErrRange" = some 4 := by kernel_rfl
theorem tlr2 : (Tryz.prog.globals[4]?).map (·.type) = some 54 := by kernel_rfl
theorem tle1 : Tryz.prog.cellsOf 181 = 1 := by kernel_rfl
theorem tle2 : Tryz.prog.cellsOf 9 = 1 := by kernel_rfl
theorem tle3 : Tryz.prog.cellsOf 3 = 1 := by kernel_rfl
theorem tlb1 : Tryz.prog.globalNamed "dragoman/tlex.bases" = some 0 := by kernel_rfl
theorem tlb2 : (Tryz.prog.globals[0]?).map (·.type) = some 127 := by kernel_rfl
theorem tlstar : "*errors.errorString" = "*" ++ "errors.errorString" := by decide
theorem tlrow (u : TypeId) (h : Tryz.prog.typeName? 3 u = some "*errors.errorString") : u = 179 :=
  typeName_ptr_named (nm := "errors.errorString") (by rw [← tlstar]; kernel_rfl) (by kernel_rfl) (by decide) u (by rw [← tlstar]; exact h)
/-- one entry of the list -/
theorem tpick {W : World} {l : List (String × DataW Unit)} (h : laidMetH Tryz.prog l W) (keep : String × DataW Unit → Bool) (x : String × DataW Unit) (hx : l.filter keep = [x]) (hp : x.2.handleName?.isNone = true) : laidMet Tryz.prog [x] W := by
  have k := h.filter keep
  rw [hx, MakeChecks.laidMetH_plain _ _ _ (by simp [hp])] at k
  exact k
/-- a head, its digits, its base, cell for cell -/
theorem trip_of {w : World} {base : Nat} {sp : Nat → Bool} {held : Bool} {fuel : Nat} {cs : List Value} {a b : List UInt8} {c : Int} {p : List MemPlace}
    (h : DataW.trod (fun _ => ()) Tryz.prog w base sp held fuel 126 cs = some (.agg [.lit (.string a), .lit (.string b), .lit (.int .i64 c)], p)) : cs[0]? = some (.string (mkS a)) ∧ cs[1]? = some (.string (mkS b)) ∧ cs[2]? = some (.int .i64 c) := by
  obtain ⟨xs, n, rfl, hx, hl, hxl, hall⟩ := DataW.trod_struct Tryz.underlying126 h
  have h0 := hall 0 _ rfl
  have h1 := hall 1 _ rfl
  have h2 := hall 2 _ rfl
  have hxs : xs.map (·.1) = [.lit (.string a), .lit (.string b), .lit (.int .i64 c)] := by
    have := congrArg Prod.fst hx
    simpa using this.symm
  obtain ⟨x0, x1, x2, rfl⟩ : ∃ x0 x1 x2, xs = [x0, x1, x2] := by
    have := congrArg List.length hxs
    match xs, this with
    | [x0, x1, x2], _ => exact ⟨x0, x1, x2, rfl⟩
  simp only [List.map_cons, List.map_nil, List.cons.injEq, and_true] at hxs
  simp only [List.getElem?_cons_zero, List.getElem?_cons_succ] at h0 h1 h2
  obtain ⟨s0, c0, e0, -⟩ := DataW.trod_string Tryz.underlying9 h0
  obtain ⟨s1, c1, e1, -⟩ := DataW.trod_string Tryz.underlying9 h1
  obtain ⟨n2, c2, e2, -⟩ := DataW.trod_int Tryz.underlying3 h2
  rw [e0, e1, e2] at hxs
  simp only [DataW.lit.injEq, Lit.string.injEq, Lit.int.injEq, true_and] at hxs
  have c0' : (cs.drop 0).take (Tryz.prog.cellsOf 9) = [.string s0] := c0
  have c1' : (cs.drop 1).take (Tryz.prog.cellsOf 9) = [.string s1] := c1
  have c2' : (cs.drop 2).take (Tryz.prog.cellsOf 3) = [.int .i64 n2] := c2
  rw [tle2] at c0' c1'
  rw [tle3] at c2'
  obtain ⟨k0, k1, k2⟩ := hxs
  refine ⟨?_, ?_, ?_⟩
  · have := congrArg (·[0]?) c0'
    rw [← k0, ← self_str s0]
    simpa [List.getElem?_take, List.getElem?_drop] using this
  · have := congrArg (·[0]?) c1'
    rw [← k1, ← self_str s1]
    simpa [List.getElem?_take, List.getElem?_drop] using this
  · have := congrArg (·[0]?) c2'
    rw [← k2]
    simpa [List.getElem?_take, List.getElem?_drop] using this
theorem tlc : Tryz.prog.cellsOf 126 = 3 := by kernel_rfl
theorem bas_datum : (Rows.laid_dragoman_tlex_bases : DataW Unit) = .agg [.agg [.lit (.string [48, 120]), .lit (.string [48, 49, 50, 51, 52, 53, 54, 55, 56, 57, 97, 98, 99, 100, 101, 102, 65, 66, 67, 68, 69, 70]), .lit (.int .i64 16)], .agg [.lit (.string [48, 111]), .lit (.string [48, 49, 50, 51, 52, 53, 54, 55]), .lit (.int .i64 8)], .agg [.lit (.string [48, 98]), .lit (.string [48, 49]), .lit (.int .i64 2)]] := by kernel_rfl
theorem globb_of {W : World} (h : Lib.VarReads Tryz.prog W "dragoman/tlex.bases" Rows.laid_dragoman_tlex_bases) : GlobB W := by
  obtain ⟨g, t, cs, fuel, p, h1, h2, h3, h4⟩ := h
  obtain rfl : g = 0 := Option.some.inj (h1.symm.trans tlb1)
  obtain rfl : t = 127 := Option.some.inj (h2.symm.trans tlb2)
  rw [bas_datum] at h4
  have hc := fun i => World.var?_cell tlb1 h3 i
  have key : ∀ i, i < 3 → ∃ a b c, ([([48, 120], [48, 49, 50, 51, 52, 53, 54, 55, 56, 57, 97, 98, 99, 100, 101, 102, 65, 66, 67, 68, 69, 70], 16), ([48, 111], [48, 49, 50, 51, 52, 53, 54, 55], 8), ([48, 98], [48, 49], 2)] : List (List UInt8 × List UInt8 × Int))[i]? = some (a, b, c) ∧ cs[i * 3]? = some (.string (mkS a)) ∧ cs[i * 3 + 1]? = some (.string (mkS b)) ∧ cs[i * 3 + 2]? = some (.int .i64 c) := by
    intro i hi
    obtain ⟨fuel', d, q, hd, hf⟩ := Lib.array_elem Tryz.underlying127 h4 i hi
    rw [tlc] at hf
    have hi3 : i = 0 ∨ i = 1 ∨ i = 2 := by omega
    rcases hi3 with rfl | rfl | rfl
    · cases hd
      obtain ⟨a0, a1, a2⟩ := trip_of hf
      exact ⟨_, _, _, rfl, by simpa [List.getElem?_take, List.getElem?_drop] using a0, by simpa [List.getElem?_take, List.getElem?_drop] using a1, by simpa [List.getElem?_take, List.getElem?_drop] using a2⟩
    · cases hd
      obtain ⟨a0, a1, a2⟩ := trip_of hf
      exact ⟨_, _, _, rfl, by simpa [List.getElem?_take, List.getElem?_drop] using a0, by simpa [List.getElem?_take, List.getElem?_drop] using a1, by simpa [List.getElem?_take, List.getElem?_drop] using a2⟩
    · cases hd
      obtain ⟨a0, a1, a2⟩ := trip_of hf
      exact ⟨_, _, _, rfl, by simpa [List.getElem?_take, List.getElem?_drop] using a0, by simpa [List.getElem?_take, List.getElem?_drop] using a1, by simpa [List.getElem?_take, List.getElem?_drop] using a2⟩
  obtain ⟨_, _, _, r0, p0, p1, p2⟩ := key 0 (by decide)
  obtain ⟨_, _, _, r1, p3, p4, p5⟩ := key 1 (by decide)
  obtain ⟨_, _, _, r2, p6, p7, p8⟩ := key 2 (by decide)
  cases r0; cases r1; cases r2
  intro i v hv
  rw [hc]
  match i, hv with
  | 0, hv => cases hv; exact p0
  | 1, hv => cases hv; exact p1
  | 2, hv => cases hv; exact p2
  | 3, hv => cases hv; exact p3
  | 4, hv => cases hv; exact p4
  | 5, hv => cases hv; exact p5
  | 6, hv => cases hv; exact p6
  | 7, hv => cases hv; exact p7
  | 8, hv => cases hv; exact p8
  | i + 9, hv => simp [basC] at hv
theorem globn_gen {W : World} {l : List (String × DataW Unit)} (h : laidMetH Tryz.prog l W) (hsh : W.ShapedOpen Tryz.prog) (e1 : l.filter (fun x => x.1 == "strconv.ErrSyntax") = [("strconv.ErrSyntax", Rows.laid_strconv_ErrSyntax)]) (e2 : l.filter (fun x => x.1 == "strconv.ErrRange") = [("strconv.ErrRange", Rows.laid_strconv_ErrRange)])
    (e3 : l.filter (fun x => x.1 == "dragoman/tlex.bases") = [("dragoman/tlex.bases", Rows.laid_dragoman_tlex_bases)]) : GlobN W := by
  have h2 := tpick h (fun x => x.1 == "strconv.ErrSyntax") ("strconv.ErrSyntax", Rows.laid_strconv_ErrSyntax) e1 (by kernel_rfl)
  have h3 := tpick h (fun x => x.1 == "strconv.ErrRange") ("strconv.ErrRange", Rows.laid_strconv_ErrRange) e2 (by kernel_rfl)
  have h4 := tpick h (fun x => x.1 == "dragoman/tlex.bases") ("dragoman/tlex.bases", Rows.laid_dragoman_tlex_bases) e3 (by kernel_rfl)
  obtain ⟨a0, s0, hv0, -, -, -⟩ := laid_sentinel h2 tls1 tls2 Tryz.underlying54 tlrow Tryz.underlying179 Tryz.underlying181 rfl rfl Tryz.underlying9 tle1 tle2
  obtain ⟨a1, s1, hv1, -, -, -⟩ := laid_sentinel h3 tlr1 tlr2 Tryz.underlying54 tlrow Tryz.underlying179 Tryz.underlying181 rfl rfl Tryz.underlying9 tle1 tle2
  exact ⟨⟨⟨⟨_, _, hv0⟩, ⟨_, _, hv1⟩⟩, cell_of_shapedOpen_int (g := 1) (t := 3) (zero := #[.int .i64 0]) hsh (of_decide_eq_true (by kernel_rfl)) (by kernel_rfl) rfl (by kernel_rfl) (by kernel_rfl) Tryz.underlying3⟩, globb_of (Lib.laidMet.reads h4 (List.mem_singleton.2 rfl))⟩
end Go.Proofs.YtiaepihdfbahaaaGreatDoor
namespace Go.Proofs.YtiaepihdfbahaaaGreatDoor
open Go.RowKit

theorem l12g1 : Tryz.prog.globalNamed "internal/strconv.uint64pow10" = some 2 := by kernel_rfl
theorem l12g2 : (Tryz.prog.globals[2]?).map (·.type) = some 164 := by kernel_rfl
theorem l12g3 : Tryz.prog.cellsOf 145 = 1 := by kernel_rfl
theorem l12g4 : Tryz.prog.cellsOf 164 = 20 := by kernel_rfl
theorem glob12_gen {W : World} {l : List (String × DataW Unit)} (h : laidMetH Tryz.prog l W) (hsh : W.ShapedOpen Tryz.prog) (e1 : l.filter (fun x => x.1 == "strconv.ErrSyntax") = [("strconv.ErrSyntax", Rows.laid_strconv_ErrSyntax)]) (e2 : l.filter (fun x => x.1 == "strconv.ErrRange") = [("strconv.ErrRange", Rows.laid_strconv_ErrRange)])
    (e3 : l.filter (fun x => x.1 == "dragoman/tlex.bases") = [("dragoman/tlex.bases", Rows.laid_dragoman_tlex_bases)]) (e4 : l.filter (fun x => x.1 == "internal/strconv.uint64pow10") = [("internal/strconv.uint64pow10", Rows.laid_internal_strconv_uint64pow10)]) : GlobT12 W := by
  have h1 := tpick h (fun x => x.1 == "internal/strconv.uint64pow10") ("internal/strconv.uint64pow10", Rows.laid_internal_strconv_uint64pow10) e4 (by kernel_rfl)
  exact ⟨globn_gen h hsh e1 e2 e3, Lib.tabIs_of_head (rest := []) (zs := Lib.pow10Tab) l12g1 l12g2 Tryz.underlying164 Tryz.underlying145 l12g3 l12g4 h1⟩
theorem glob12 {W : World} (h : laidMetH Tryz.prog Rows.tprintSaysRow.laid W) (hsh : W.ShapedOpen Tryz.prog) : GlobT12 W := glob12_gen h hsh (by kernel_rfl) (by kernel_rfl) (by kernel_rfl) (by kernel_rfl)
end Go.Proofs.YtiaepihdfbahaaaGreatDoor
namespace Go.Proofs.YtiaepihdfbahaaaGreatDoor
open Go.RowKit Go.WideShapes

set_option maxRecDepth 100000 in
theorem open_tree {H : Type} {enc : TypeId × Value → H} {w W : World} {base b : Nat} {r : Reach} {spare : Nat → Bool} {held : Bool} {v : Value} {d : DataW H} {ps : List MemPlace}
    (hv : Value.okWide Tryz.prog W r b 27 v) (h : DataW.Trod enc Tryz.prog w base spare held 27 v d ps) : ∃ (T : VT) (x y : Value), v = vv T x y ∧ HV w T x y := by
  obtain ⟨cs, rfl, -⟩ := okWide_struct Tryz.underlying27 hv
  obtain ⟨fuel, hf⟩ := h
  obtain ⟨T, x, y, hc, hT⟩ := tree_of fuel _ _ hf
  refine ⟨T, x, y, ?_, hT⟩
  have : cs.toList = [.int .i64 T.kd, .int .i64 T.nm, .string T.st, x, y] := by simpa [Value.cells] using hc
  unfold vv
  congr 1
  apply Array.ext'
  rw [this]
end Go.Proofs.YtiaepihdfbahaaaGreatDoor
