import Derived.Test.YteimbjamnfkapaaGreatDoorGVSameT
import Derived.Test.YteimbjamnfkapaaGreatDoorGOrders
import Derived.Deep.LoopGhost
import Derived.Test.YteimbjamnfkapaaGreatDoorGDecOne
import Derived.Test.YteimbjamnfkapaaGreatDoorGVBase
import Derived.Test.YteimbjamnfkapaaGreatDoorGVTextAll
import Derived.Test.YteimbjamnfkapaaGreatDoorGVCopyAll
/- value.Same and value.Equal, walked. -/
/- value's makers of single values and of lists, walked; Get. -/
/- value.Get, walked. -/
namespace Go.Proofs.YteimbjamnfkapaaGreatDoor
open Go.RowKit
def leafT (k n : Int) (s : ByteArray) : VT := .mk k n s [] [] []
theorem hv_leaf (w : World) (k n : Int) (s : ByteArray) (hk : (Lit.int .i64 k).wf = true) (hn : (Lit.int .i64 n).wf = true) (hs : s.size ≤ maxLen) : HV w (leafT k n s) (.slice none 0 0) (.slice none 0 0) :=
 (hf_of (lo := 0) (m := 0) (hi := 0) hk hn hs (Nat.le_refl _) (Nat.le_refl _) (lf_nil w 0 0) (mf_nil w 0 0)).hv
theorem intV_wf (l : List UInt8) : (Lit.int .i64 (intV l)).wf = true := by
 have h : -9223372036854775808 ≤ intV l ∧ intV l ≤ 9223372036854775807 := by
  unfold intV
  cases hb : intB l with
  | false => simp
  | true =>
   unfold intB at hb
   simp only [Bool.and_eq_true] at hb
   have h5 := hb.2
   cases hn : pNeg l with
   | true => rw [hn] at h5; simp at h5 ⊢; omega
   | false => rw [hn] at h5; simp at h5 ⊢; omega
 simp [Lit.wf, IntKind.min, IntKind.max, IntKind.signed, IntKind.bits]; omega
def numR (s : ByteArray) : VT := if numB s.data.toList then (if intB s.data.toList then leafT 2 (intV s.data.toList) ⟨#[]⟩ else leafT 3 0 s) else zeroT
def numE (s : ByteArray) : Int := if numB s.data.toList then 0 else 1
def strR (s : ByteArray) : VT := if teI s = 0 then leafT 4 0 s else zeroT
def stampR (s : ByteArray) : VT := if stampB s then leafT 7 0 s else zeroT
def stampE (s : ByteArray) : Int := if stampB s then 0 else 1
theorem box_row {w w1 : World} {c : Array Value} {t : TypeId} (h : Below (w.alloc (.cells c t)).heap.size (w.alloc (.cells c t)) w1) : Row w1 w.heap.size t c.size := (Row.new w c t).onto (h.block _ (by simp))
theorem dint_above {P : Program} {f : FuncId} {args : Array Value} {w x : World} {v : Ending} {b m : Nat} {t : TypeId} (hx : Below w.heap.size w x) (hr : Row x b t m) (h : Below w.heap.size w x → Calls P f args x fun e w' => e = v ∧ Below x.heap.size x w') : Calls P f args x fun e w' => e = v ∧ Below w.heap.size w w' ∧ Row w' b t m :=
 (h hx).mono fun _ _ ⟨he, hb⟩ => ⟨he, vonto hx hb, hr.onto (hb.block _ hr.lt)⟩
set_option maxRecDepth 100000 in
set_option maxHeartbeats 400000 in
theorem vint_any (n : Int) (w : World) :
  Calls Tryz.prog 193 #[.int .i64 n] w fun e w' => e = .returned (vv (leafT 2 n ⟨#[]⟩) (.slice none 0 0) (.slice none 0 0)) ∧ Below w.heap.size w w' := by
 go_enter Tryz.func193, Tryz.ntmps193
 go_wp2_with fail
 refine bodyPost_ret (v := vv (leafT 2 n ⟨#[]⟩) (.slice none 0 0) (.slice none 0 0)) (by simp [results, Tryz.results193, go_sem, vv, leafT, VT.kd, VT.nm, VT.st]) rfl ⟨rfl, ?_⟩
 repeat (first | exact Below.refl _ _ | apply valloc_bel | (refine vset_bel ?_ (by simp)))
set_option maxRecDepth 100000 in
set_option maxHeartbeats 400000 in
theorem vnull_any (w : World) :
  Calls Tryz.prog 188 #[] w fun e w' => e = .returned (vv zeroT (.slice none 0 0) (.slice none 0 0)) ∧ Below w.heap.size w w' := by
 go_enter Tryz.func188, Tryz.ntmps188
 go_wp2_with fail
 refine bodyPost_ret (v := vv zeroT (.slice none 0 0) (.slice none 0 0)) (by simp [results, Tryz.results188, go_sem, vv, zeroT, VT.kd, VT.nm, VT.st]) rfl ⟨rfl, ?_⟩
 repeat (first | exact Below.refl _ _ | apply valloc_bel | (refine vset_bel ?_ (by simp)))
set_option maxRecDepth 100000 in
set_option maxHeartbeats 400000 in
theorem vtrue_any (w : World) :
  Calls Tryz.prog 189 #[.bool true] w fun e w' => e = .returned (vv (leafT 1 1 ⟨#[]⟩) (.slice none 0 0) (.slice none 0 0)) ∧ Below w.heap.size w w' := by
 go_enter Tryz.func189, Tryz.ntmps189
 go_wp2_with fail
 refine bodyPost_ret (v := vv (leafT 1 1 ⟨#[]⟩) (.slice none 0 0) (.slice none 0 0)) (by simp [results, Tryz.results189, go_sem, vv, leafT, VT.kd, VT.nm, VT.st]) rfl ⟨rfl, ?_⟩
 repeat (first | exact Below.refl _ _ | apply valloc_bel | (refine vset_bel ?_ (by simp)))
set_option maxRecDepth 100000 in
set_option maxHeartbeats 400000 in
theorem vstr_any (s : ByteArray) (w : World) (hs : s.size ≤ maxLen) :
  Calls Tryz.prog 141 #[.string s] w fun e w' => e = .returned (.tuple #[vv (strR s) (.slice none 0 0) (.slice none 0 0), .int .i64 (teI s)]) ∧ Below w.heap.size w w' := by
 have te := hid (fun X => terr_any s X hs)
 have HR := hid (show strR s = if teI s = 0 then leafT 4 0 s else zeroT from rfl)
 generalize strR s = R at HR ⊢
 generalize teI s = z at te HR ⊢
 by_cases hz : z = 0
 ·have tz : (z != 0) = false := by simpa using hz
  rw [if_pos hz] at HR
  have HZ := hid hz
  clear hz
  go_enter Tryz.func141, Tryz.ntmps141
  go_wp2_with (go_at_call 197; go_must (refine (te.out _).mono ?_; rintro e w1 ⟨rfl, rfl⟩))
  refine bodyPost_ret (v := .tuple #[vv (leafT 4 0 s) (.slice none 0 0) (.slice none 0 0), .int .i64 0]) (by simp [results, Tryz.results141, go_sem, vv, leafT, VT.kd, VT.nm, VT.st]) rfl ⟨by rw [HR.out, HZ.out], ?_⟩
  repeat (first | exact Below.refl _ _ | apply valloc_bel | (refine vset_bel ?_ (by simp)))
 ·have tz : (z != 0) = true := by simpa using hz
  rw [if_neg hz] at HR
  clear hz
  go_enter Tryz.func141, Tryz.ntmps141
  go_wp2_with (go_at_call 197; go_must (refine (te.out _).mono ?_; rintro e w1 ⟨rfl, rfl⟩))
  refine bodyPost_ret (v := .tuple #[vv zeroT (.slice none 0 0) (.slice none 0 0), .int .i64 z]) (by simp [results, Tryz.results141, go_sem, vv, zeroT, VT.kd, VT.nm, VT.st]) rfl ⟨by rw [HR.out], ?_⟩
  repeat (first | exact Below.refl _ _ | apply valloc_bel | (refine vset_bel ?_ (by simp)))
set_option maxRecDepth 100000 in
set_option maxHeartbeats 400000 in
theorem vstamp_any (s : ByteArray) (w : World) (hs : s.size ≤ maxLen) :
  Calls Tryz.prog 196 #[.string s] w fun e w' => e = .returned (.tuple #[vv (stampR s) (.slice none 0 0) (.slice none 0 0), .int .i64 (stampE s)]) ∧ Below w.heap.size w w' := by
 have gs := hid (fun X => gstamp_any s X hs)
 have HR := hid (show stampR s = (if stampB s then leafT 7 0 s else zeroT) ∧ stampE s = (if stampB s then 0 else 1) from ⟨rfl, rfl⟩)
 generalize stampR s = R at HR ⊢
 generalize stampE s = E at HR ⊢
 generalize stampB s = z at gs HR
 cases z
 all_goals
  simp only [if_true, if_false, Bool.false_eq_true] at HR
  go_enter Tryz.func196, Tryz.ntmps196
  go_wp2_with fail
  go_at_call 199
  refine (gs.out _).mono ?_
  rintro e w1 ⟨rfl, hb1⟩
  have R0 := hid (box_row hb1)
  have HB1 := hid (vonto (valloc_bel (Below.refl w.heap.size w) _) hb1)
  clear hb1
  obtain ⟨u0, e0⟩ := R0.out.cell (o := 0) (by decide)
  obtain ⟨u1, e1⟩ := R0.out.cell (o := 1) (by decide)
  obtain ⟨u2, e2⟩ := R0.out.cell (o := 2) (by decide)
  obtain ⟨u3, e3⟩ := R0.out.cell (o := 3) (by decide)
  obtain ⟨u4, e4⟩ := R0.out.cell (o := 4) (by decide)
  have z0 := R0.out.frozen
  go_wp2_with fail
 ·refine bodyPost_ret (v := .tuple #[vv zeroT (.slice none 0 0) (.slice none 0 0), .int .i64 1]) (by simp [results, Tryz.results196, go_sem, vv, zeroT, VT.kd, VT.nm, VT.st, e0, e1, e2, e3, e4]) rfl ⟨by rw [HR.out.1, HR.out.2], ?_⟩
  repeat (first | exact HB1.out | (refine vset_bel ?_ (by simp)))
 ·refine bodyPost_ret (v := .tuple #[vv (leafT 7 0 s) (.slice none 0 0) (.slice none 0 0), .int .i64 0]) (by simp [results, Tryz.results196, go_sem, vv, leafT, VT.kd, VT.nm, VT.st, e0, e1, e2, e3, e4]) rfl ⟨by rw [HR.out.1, HR.out.2], ?_⟩
  repeat (first | exact HB1.out | (refine vset_bel ?_ (by simp)))
set_option maxRecDepth 100000 in
set_option maxHeartbeats 2000000 in
theorem vnum_any (s : ByteArray) (w : World) (hg : Glob w) (hs : s.size ≤ maxLen) :
  Calls Tryz.prog 137 #[.string s] w fun e w' => e = .returned (.tuple #[vv (numR s) (.slice none 0 0) (.slice none 0 0), .int .i64 (numE s)]) ∧ Below w.heap.size w w' := by
 have dg := hid (fun X => dgood_max s X hs)
 have di := hid (fun X (hX : Below w.heap.size w X) => dint_max s X (hg.on hX) hs)
 have vi := hid (fun n X => vint_any n X)
 simp only [vv] at vi
 have HR := hid (show numR s = (if numB s.data.toList then (if intB s.data.toList then leafT 2 (intV s.data.toList) ⟨#[]⟩ else leafT 3 0 s) else zeroT) ∧ numE s = (if numB s.data.toList then 0 else 1) from ⟨rfl, rfl⟩)
 generalize numR s = R at HR ⊢
 generalize numE s = E at HR ⊢
 generalize numB s.data.toList = a at dg HR
 generalize intB s.data.toList = b at di HR
 generalize intV s.data.toList = v at di HR
 clear hg
 cases a with
 | false =>
  simp only [if_false, Bool.false_eq_true] at HR
  go_enter Tryz.func137, Tryz.ntmps137
  go_wp2_with fail
  go_at_call 136
  refine (dg.out _).mono ?_
  rintro e w1 ⟨rfl, hb1⟩
  have R0 := hid (box_row hb1)
  have HB1 := hid (vonto (valloc_bel (Below.refl w.heap.size w) _) hb1)
  clear hb1
  obtain ⟨u0, e0⟩ := R0.out.cell (o := 0) (by decide)
  obtain ⟨u1, e1⟩ := R0.out.cell (o := 1) (by decide)
  obtain ⟨u2, e2⟩ := R0.out.cell (o := 2) (by decide)
  obtain ⟨u3, e3⟩ := R0.out.cell (o := 3) (by decide)
  obtain ⟨u4, e4⟩ := R0.out.cell (o := 4) (by decide)
  have z0 := R0.out.frozen
  go_wp2_with fail
  refine bodyPost_ret (v := .tuple #[vv zeroT (.slice none 0 0) (.slice none 0 0), .int .i64 1]) (by simp [results, Tryz.results137, go_sem, vv, zeroT, VT.kd, VT.nm, VT.st, e0, e1, e2, e3, e4]) rfl ⟨by rw [HR.out.1, HR.out.2], ?_⟩
  repeat (first | exact HB1.out | (refine vset_bel ?_ (by simp)))
 | true =>
  cases b with
  | false =>
   simp only [if_true, if_false, Bool.false_eq_true] at HR
   go_enter Tryz.func137, Tryz.ntmps137
   go_wp2_with fail
   go_at_call 136
   refine (dg.out _).mono ?_
   rintro e w1 ⟨rfl, hb1⟩
   have R1 := hid (box_row hb1)
   have HB1 := hid (vonto (valloc_bel (Below.refl w.heap.size w) _) hb1)
   clear hb1
   go_wp2_with fail
   go_at_call 192
   refine (dint_above HB1.out R1.out (di.out _)).mono ?_
   rintro e w2 ⟨rfl, hb2, R0⟩
   obtain ⟨u0, e0⟩ := R0.cell (o := 0) (by decide)
   obtain ⟨u1, e1⟩ := R0.cell (o := 1) (by decide)
   obtain ⟨u2, e2⟩ := R0.cell (o := 2) (by decide)
   obtain ⟨u3, e3⟩ := R0.cell (o := 3) (by decide)
   obtain ⟨u4, e4⟩ := R0.cell (o := 4) (by decide)
   have z0 := R0.frozen
   go_wp2_with fail
   refine bodyPost_ret (v := .tuple #[vv (leafT 3 0 s) (.slice none 0 0) (.slice none 0 0), .int .i64 0]) (by simp [results, Tryz.results137, go_sem, vv, leafT, VT.kd, VT.nm, VT.st, e0, e1, e2, e3, e4]) rfl ⟨by rw [HR.out.1, HR.out.2], ?_⟩
   repeat (first | exact hb2 | (refine vset_bel ?_ (by simp)))
  | true =>
   simp only [if_true] at HR
   go_enter Tryz.func137, Tryz.ntmps137
   go_wp2_with fail
   go_at_call 136
   refine (dg.out _).mono ?_
   rintro e w1 ⟨rfl, hb1⟩
   have R1 := hid (box_row hb1)
   have HB1 := hid (vonto (valloc_bel (Below.refl w.heap.size w) _) hb1)
   clear hb1
   go_wp2_with fail
   go_at_call 192
   refine (dint_above HB1.out R1.out (di.out _)).mono ?_
   rintro e w2 ⟨rfl, hb2, R2⟩
   have HR2 := hid R2
   have HB2 := hid hb2
   clear R2 hb2
   go_wp2_with fail
   go_at_call 193
   refine (vi.out _ _).mono ?_
   rintro e w3 ⟨rfl, hb3⟩
   have R0 := hid (HR2.out.onto (hb3.block _ HR2.out.lt))
   have HB3 := hid (vonto HB2.out hb3)
   clear hb3
   obtain ⟨u0, e0⟩ := R0.out.cell (o := 0) (by decide)
   obtain ⟨u1, e1⟩ := R0.out.cell (o := 1) (by decide)
   obtain ⟨u2, e2⟩ := R0.out.cell (o := 2) (by decide)
   obtain ⟨u3, e3⟩ := R0.out.cell (o := 3) (by decide)
   obtain ⟨u4, e4⟩ := R0.out.cell (o := 4) (by decide)
   have z0 := R0.out.frozen
   go_wp2_with fail
   refine bodyPost_ret (v := .tuple #[vv (leafT 2 v ⟨#[]⟩) (.slice none 0 0) (.slice none 0 0), .int .i64 0]) (by simp [results, Tryz.results137, go_sem, vv, leafT, VT.kd, VT.nm, VT.st, e0, e1, e2, e3, e4]) rfl ⟨by rw [HR.out.1, HR.out.2], ?_⟩
   repeat (first | exact HB3.out | (refine vset_bel ?_ (by simp)))
theorem list_wf : (Lit.int .i64 5).wf = true ∧ (Lit.int .i64 6).wf = true ∧ (Lit.int .i64 0).wf = true := by decide
set_option maxRecDepth 100000 in
set_option maxHeartbeats 1000000 in
theorem vlist_any (L : List VT) (x : Value) (w : World) (hx : InL w L x) (hl : szL L ≤ 999999) :
  Calls Tryz.prog 190 #[x] w fun e w' => ∃ X, e = .returned (vv (.mk 5 0 ⟨#[]⟩ L [] []) X (.slice none 0 0)) ∧ HF w' w.heap.size w'.heap.size (.mk 5 0 ⟨#[]⟩ L [] []) X (.slice none 0 0) ∧ Below w.heap.size w w' := by
 have hC : ∀ (i : Nat) (t : VT), L[i]? = some t → CopyOk t := fun i t h => vcopy_any (szT t) t (Nat.le_refl _) (by have := szL_get L i t h; omega)
 have hlen : L.length ≤ 1000000 := by have := len_szL L; omega
 have HLL := hid (fun (X : World) (hX : Below w.heap.size w X) => copylist_of L x X hC (hx.onto hX) hlen)
 obtain ⟨o, n, c, rfl⟩ : ∃ o n c, x = .slice o n c := by obtain ⟨a, f, g, ⟨o, cap, rfl, -⟩, -⟩ := hx; exact ⟨_, _, _, rfl⟩
 clear hC hx
 go_enter Tryz.func190, Tryz.ntmps190
 go_wp2_with fail
 go_at_call 111
 refine (HLL.out _ (valloc_bel (Below.refl _ _) _)).mono ?_
 rintro e w1 ⟨X, rfl, hX, hb1⟩
 obtain ⟨pX, nX, cX, rfl⟩ := hX.slice
 have HX := hid hX
 have R0 := hid (box_row hb1)
 have HB1 := hid (vonto (valloc_bel (Below.refl w.heap.size w) _) hb1)
 have hs1 : w.heap.size + 1 ≤ w1.heap.size := by have := hb1.size; simpa using this
 clear hb1 hX
 obtain ⟨u0, e0⟩ := R0.out.cell (o := 0) (by decide)
 obtain ⟨u1, e1⟩ := R0.out.cell (o := 1) (by decide)
 obtain ⟨u2, e2⟩ := R0.out.cell (o := 2) (by decide)
 obtain ⟨u3, e3⟩ := R0.out.cell (o := 3) (by decide)
 obtain ⟨u4, e4⟩ := R0.out.cell (o := 4) (by decide)
 have z0 := R0.out.frozen
 go_wp2_with fail
 refine bodyPost_ret (v := vv (.mk 5 0 ⟨#[]⟩ L [] []) (.slice pX nX cX) (.slice none 0 0)) (by simp [results, Tryz.results190, go_sem, vv, VT.kd, VT.nm, VT.st, e0, e1, e2, e3, e4]) rfl ⟨_, rfl, ?_, ?_⟩
 ·change HF (put5 w1 w.heap.size 0 (.int .i64 5) (.int .i64 0) (.string ⟨#[]⟩) (.slice pX nX cX) (.slice none 0 0)) w.heap.size (put5 w1 w.heap.size 0 (.int .i64 5) (.int .i64 0) (.string ⟨#[]⟩) (.slice pX nX cX) (.slice none 0 0)).heap.size _ _ _
  rw [put5_size]
  have hLF := HX.out
  simp only [World.size_alloc] at hLF
  refine hf_of (m := w1.heap.size) list_wf.1 list_wf.2.2 (by decide) (by omega) (Nat.le_refl _) ?_ (mf_nil _ _ _)
  exact (hLF.onto (fun k g1 g2 => put5_heap _ _ _ _ _ _ _ _ _ (by omega))).wide (by omega) (Nat.le_refl _)
 ·exact vset_bel (vset_bel (vset_bel (vset_bel (vset_bel HB1.out (by simp)) (by simp)) (by simp)) (by simp)) (by simp)
end Go.Proofs.YteimbjamnfkapaaGreatDoor
