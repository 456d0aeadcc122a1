import Derived.Test.YteimbjamnfkapaaGreatDoorCMathCell
import Derived.Test.YteimbjamnfkapaaGreatDoorCOrders
import Derived.Test.YteimbjamnfkapaaGreatDoorCCeA
/- unflat: holds and part, walked. -/
namespace Go.Proofs.YteimbjamnfkapaaGreatDoor
open Go.RowKit Go.Maps
def hol (s : PStep) : Int := if s.place = true then 2 else 3
def nsh (k : Int) (s : PStep) : Int := if k = 0 then hol s else k
theorem set_self {α : Type} {E : List α} {a : Nat} {e : α} (h : E[a]? = some e) : E.set a e = E := by
 apply List.ext_getElem?
 intro i
 rw [List.getElem?_set]
 split
 ·rename_i h1; subst h1
  rw [if_pos (lt_of_some h), h]
 ·rfl
def Off (tb m g : Nat) (E : List NE) (b : Nat) : Prop := ¬ b = tb ∧ ¬ b = m ∧ ¬ b = g ∧ ∀ e ∈ E, e.u.ownBlock ≠ some b
def PartNew (B : Nat) (w : World) (tb m g : Nat) (E : List NE) (M : Ways) (a : Nat) (e : NE) (s : PStep) (lf : Nat) (w' : World) : Prop :=
 ∃ g' c' u', TM B w' tb m (.slice (some ⟨g', 0, none⟩) (E.length + 1) c') ((E.set a ⟨{e.d with ps := e.d.ps ++ [E.length]}, u'⟩) ++ [⟨⟨0, s, lf, []⟩, .slice none 0 0⟩]) (((a, s), E.length) :: M) ∧ E.length + 1 ≤ c' ∧ Kp B w w' ∧ w.heap.size ≤ w'.heap.size ∧
  ∀ b, b < w.heap.size → Off tb m g E b → w'.heap[b]? = w.heap[b]? ∧ Off tb m g' ((E.set a ⟨{e.d with ps := e.d.ps ++ [E.length]}, u'⟩) ++ [⟨⟨0, s, lf, []⟩, .slice none 0 0⟩]) b
theorem Tryz.infoInt1 : (Tryz.prog.info? 3).map (fun i => (i.zero, i.size, i.bytes)) = some (some (.int .i64 0), 1, 8) := by kernel_rfl
theorem Tryz.infoNode : (Tryz.prog.info? 152).map (fun i => (i.zero, i.size, i.bytes)) = some (some (.agg #[.int .i64 0, .string ⟨#[]⟩, .int .i64 0, .bool false, .int .i64 0, .slice none 0 0]), 6, 72) := by kernel_rfl
set_option maxRecDepth 100000 in
set_option maxHeartbeats 1000000 in
theorem holds_any (B : Nat) (w : World) (tb m g c : Nat) (E : List NE) (M : Ways) (h : TM B w tb m (.slice (some ⟨g, 0, none⟩) E.length c) E M) (a : Nat) (e : NE) (he : E[a]? = some e) (s : PStep) (_hl : E.length ≤ 10000000) (_hc : E.length ≤ c) (hsh : 0 ≤ e.d.sh ∧ e.d.sh ≤ 3) :
  Calls Tryz.prog 91 #[.pointer (some ⟨tb, 0, none⟩), .int .i64 (a : Int), pv s] w fun r w' => r = .returned (.bool (decide (nsh e.d.sh s = hol s))) ∧ TM B w' tb m (.slice (some ⟨g, 0, none⟩) E.length c) (E.set a ⟨{e.d with sh := nsh e.d.sh s}, e.u⟩) M ∧ Kp B w w' ∧ (∀ k, k < w.heap.size → ¬ k = g → w'.heap[k]? = w.heap[k]?) ∧ w.heap.size ≤ w'.heap.size := by
 have ha := lt_of_some he
 have HT := hid h
 have HE := hid he
 obtain ⟨q, hq⟩ : ∃ k, e.d.sh = k := ⟨_, rfl⟩
 have HQ := hid hq
 rw [hq] at hsh ⊢
 obtain ⟨R, hR⟩ : ∃ R, decide (nsh q s = hol s) = R := ⟨_, rfl⟩
 obtain ⟨E2, hE2⟩ : ∃ E2, E.set a ⟨{e.d with sh := nsh q s}, e.u⟩ = E2 := ⟨_, rfl⟩
 rw [hR, hE2]
 have HR := hid hR
 have HE2 := hid hE2
 clear h he hq hR hE2
 unfold pv
 go_enter Tryz.func91, Tryz.ntmps91
 go_upto_region 1 with fail
 refine cewp_gen ?_
 intro W hW
 have hbW : Below w.heap.size w W := by rw [hW]; exact valloc_bel (Below.refl _ _) _
 have p2 : W.cell? ⟨w.heap.size, 2, none⟩ = some (.bool s.place) := by rw [hW]; simp
 have hTW := HT.out.onto hbW
 obtain ⟨q0, -, -⟩ := hTW.cells
 have q1 : W.cell? ⟨g, a * 6, none⟩ = some (.int .i64 q) := by rw [← HQ.out]; exact hTW.at_ HE.out 0 _ rfl
 have qf : W.frozen? ⟨g, a * 6, none⟩ = false := hTW.ns.frozenAt (a * 6)
 have HTW := hid hTW
 have HK := hid (Kp.of (B := B) hbW)
 have HBW := hid hbW
 clear hW hbW hTW HT
 by_cases h0 : q = 0
 ·subst h0
  have HR0 := hid (show R = true by rw [← HR.out]; simp [nsh])
  cases hp : s.place with
  | true =>
   have hn : nsh 0 s = 2 := by simp [nsh, hol, hp]
   have HS := hid (HTW.out.set HE.out 2)
   have HN := hid hn
   rw [hp] at p2
   clear hn hp
   go_wp2_with fail
   go_ret
   have hr0 := HR0.out
   subst hr0
   exact ⟨rfl, by rw [← HE2.out, HN.out]; exact HS.out.1, HK.out.trans HS.out.2, fun k hk hg => ((set_grownW W g (a * 6) _).block k (by have := HBW.out.size; omega) (fun e => hg (by injection e))).trans (HBW.out.block k hk), by simpa using HBW.out.size⟩
  | false =>
   have hn : nsh 0 s = 3 := by simp [nsh, hol, hp]
   have HS := hid (HTW.out.set HE.out 3)
   have HN := hid hn
   rw [hp] at p2
   clear hn hp
   go_wp2_with fail
   go_ret
   have hr0 := HR0.out
   subst hr0
   exact ⟨rfl, by rw [← HE2.out, HN.out]; exact HS.out.1, HK.out.trans HS.out.2, fun k hk hg => ((set_grownW W g (a * 6) _).block k (by have := HBW.out.size; omega) (fun e => hg (by injection e))).trans (HBW.out.block k hk), by simpa using HBW.out.size⟩
 ·have hn : nsh q s = q := by unfold nsh; rw [if_neg h0]
  have hsm : E.set a ⟨{e.d with sh := nsh q s}, e.u⟩ = E := by
   rw [hn, ← HQ.out]
   exact set_self HE.out
  rw [hsm] at HE2
  rw [hn] at HR
  have t0 : (q == 0) = false := by simpa using h0
  have H0 := hid h0
  clear hsm hn h0
  cases hp : s.place with
  | true =>
   have hh : hol s = 2 := by simp [hol, hp]
   rw [hh] at HR
   rw [hp] at p2
   clear hh hp
   obtain ⟨D, hD⟩ : ∃ b, (q == 2) = b := ⟨_, rfl⟩
   have HD := hid (show decide (q = 2) = D by rw [← hD]; rfl)
   go_wp2_with fail
   go_ret
   obtain rfl : D = R := HD.out.symm.trans HR.out
   exact ⟨rfl, by rw [← HE2.out]; exact HTW.out, HK.out, fun k hk _ => HBW.out.block k hk, HBW.out.size⟩
  | false =>
   have hh : hol s = 3 := by simp [hol, hp]
   rw [hh] at HR
   rw [hp] at p2
   clear hh hp
   obtain ⟨D, hD⟩ : ∃ b, (q == 3) = b := ⟨_, rfl⟩
   have HD := hid (show decide (q = 3) = D by rw [← hD]; rfl)
   go_wp2_with fail
   go_ret
   obtain rfl : D = R := HD.out.symm.trans HR.out
   exact ⟨rfl, by rw [← HE2.out]; exact HTW.out, HK.out, fun k hk _ => HBW.out.block k hk, HBW.out.size⟩
set_option maxRecDepth 100000 in
set_option maxHeartbeats 4000000 in
theorem part_oldP (B : Nat) (w : World) (tb m g c : Nat) (E : List NE) (M : Ways) (h : TM B w tb m (.slice (some ⟨g, 0, none⟩) E.length c) E M) (a : Nat) (e : NE) (he : E[a]? = some e) (s : PStep) (lf : Nat) (hs : OkS s) (hpl : s.place = true) (hno : s.key = ⟨#[]⟩) (hl : E.length ≤ 10000000) (_hc : E.length ≤ c) (_hM : M.length ≤ 10000000) (_hp : e.d.ps.length ≤ 10000000) (_hlf : lf ≤ 10000000) (b : Nat) (hf : mpF M (a, s) = some b) :
  Calls Tryz.prog 92 #[.pointer (some ⟨tb, 0, none⟩), .int .i64 (a : Int), pv s, .int .i64 (lf : Int)] w fun r w' => r = .returned (.int .i64 (b : Int)) ∧ TM B w' tb m (.slice (some ⟨g, 0, none⟩) E.length c) E M ∧ Kp B w w' ∧ Below w.heap.size w w' := by
 have ha := lt_of_some he
 have HT := hid h
 have HE := hid he
 have hok : wyO (a, s) := ⟨by show a ≤ _; omega, hs⟩
 have HOK := hid hok
 have HNO := hid hno
 obtain ⟨sk, sa, sp⟩ := s
 simp only at hpl hno
 subst hpl hno
 have HF := hid hf
 clear h he hs hok hf
 unfold pv
 go_enter Tryz.func92, Tryz.ntmps92
 go_upto_region 4 with fail
 refine cewp_gen ?_
 intro W hW
 have hbW : Below w.heap.size w W := by
  rw [hW]
  first | exact valloc_bel (Below.refl _ _) _ | exact vset_bel (valloc_bel (Below.refl _ _) _) (Nat.le_refl _)
 have p0 : W.cell? ⟨w.heap.size, 0, none⟩ = some (.string ⟨#[]⟩) := by rw [hW]; simp
 have p1 : W.cell? ⟨w.heap.size, 1, none⟩ = some (.int .i64 sa) := by rw [hW]; simp
 have p2 : W.cell? ⟨w.heap.size, 2, none⟩ = some (.bool true) := by rw [hW]; simp
 have hwW : w.heap.size < W.heap.size := by rw [hW]; simp
 have hTW := HT.out.onto hbW
 obtain ⟨-, q0, -⟩ := hTW.cells
 have HLK : Hid (∀ X : World, Below W.heap.size W X → (Instr.lookup 98 (.map (some m)) (.agg #[.int .i64 (a : Int), .string ⟨#[]⟩, .int .i64 sa, .bool true]) true).run Tryz.prog X = .ok (.tuple #[.int .i64 ((b : Nat) : Int), .bool true]) X) := hid (fun X hX => by
  have := mp_look wy_kr (hTW.onto hX).mp hTW.mo 98 (by kernel_rfl) (a, ⟨⟨#[]⟩, sa, true⟩) HOK.out
  rw [HF.out] at this
  exact this)
 have HBW0 := hid hbW
 have HTW := hid hTW
 have HK := hid (Kp.of (B := B) hbW)
 have hS0 : Below W.heap.size W W.drew := (Below.refl _ _).drew
 clear hW hbW hTW HT HF
 refine wp_region_h (S := fun X => Below W.heap.size W X) 13 (by kernel_rfl) (by kernel_rfl) ?_
 refine take_h (i := 0) (v := ?_) rfl (by kernel_rfl) (by kernel_rfl) (by kernel_rfl) (fun _ _ _ h => h) (by rfl) ?_ hS0 ?_
 rotate_left
 ·(intro X hX; have y0 := keepCell hX q0; have y1 := keepCell hX p0; have y2 := keepCell hX p1; have y3 := keepCell hX p2; have yl := HLK.out X hX; go_simp; try with_reducible rfl)
 try simp only [Act.put, List.setIfInBounds_toArray, List.set_cons_zero, List.set_cons_succ]
 refine take_h (i := 1) (v := ?_) rfl (by kernel_rfl) (by kernel_rfl) (by kernel_rfl) (fun _ _ _ h => h) (by rfl) ?_ hS0 ?_
 rotate_left
 ·(intro X hX; have y0 := keepCell hX q0; have y1 := keepCell hX p0; have y2 := keepCell hX p1; have y3 := keepCell hX p2; have yl := HLK.out X hX; go_simp; try with_reducible rfl)
 try simp only [Act.put, List.setIfInBounds_toArray, List.set_cons_zero, List.set_cons_succ]
 refine take_h (i := 2) (v := ?_) rfl (by kernel_rfl) (by kernel_rfl) (by kernel_rfl) (fun _ _ _ h => h) (by rfl) ?_ hS0 ?_
 rotate_left
 ·(intro X hX; have y0 := keepCell hX q0; have y1 := keepCell hX p0; have y2 := keepCell hX p1; have y3 := keepCell hX p2; have yl := HLK.out X hX; go_simp; try with_reducible rfl)
 try simp only [Act.put, List.setIfInBounds_toArray, List.set_cons_zero, List.set_cons_succ]
 refine take_h (i := 3) (v := ?_) rfl (by kernel_rfl) (by kernel_rfl) (by kernel_rfl) (fun _ _ _ h => h) (by rfl) ?_ hS0 ?_
 rotate_left
 ·(intro X hX; have y0 := keepCell hX q0; have y1 := keepCell hX p0; have y2 := keepCell hX p1; have y3 := keepCell hX p2; have yl := HLK.out X hX; go_simp; try with_reducible rfl)
 try simp only [Act.put, List.setIfInBounds_toArray, List.set_cons_zero, List.set_cons_succ]
 refine take_h (i := 4) (v := ?_) rfl (by kernel_rfl) (by kernel_rfl) (by kernel_rfl) (fun _ _ _ h => h) (by rfl) ?_ hS0 ?_
 rotate_left
 ·(intro X hX; have y0 := keepCell hX q0; have y1 := keepCell hX p0; have y2 := keepCell hX p1; have y3 := keepCell hX p2; have yl := HLK.out X hX; go_simp; try with_reducible rfl)
 try simp only [Act.put, List.setIfInBounds_toArray, List.set_cons_zero, List.set_cons_succ]
 refine take_h (i := 5) (v := ?_) rfl (by kernel_rfl) (by kernel_rfl) (by kernel_rfl) (fun _ _ _ h => h) (by rfl) ?_ hS0 ?_
 rotate_left
 ·(intro X hX; have y0 := keepCell hX q0; have y1 := keepCell hX p0; have y2 := keepCell hX p1; have y3 := keepCell hX p2; have yl := HLK.out X hX; go_simp; try with_reducible rfl)
 try simp only [Act.put, List.setIfInBounds_toArray, List.set_cons_zero, List.set_cons_succ]
 refine take_h (i := 6) (v := ?_) rfl (by kernel_rfl) (by kernel_rfl) (by kernel_rfl) (fun _ _ _ h => h) (by rfl) ?_ hS0 ?_
 rotate_left
 ·(intro X hX; have y0 := keepCell hX q0; have y1 := keepCell hX p0; have y2 := keepCell hX p1; have y3 := keepCell hX p2; have yl := HLK.out X hX; go_simp; try with_reducible rfl)
 try simp only [Act.put, List.setIfInBounds_toArray, List.set_cons_zero, List.set_cons_succ]
 refine take_h (i := 7) (v := ?_) rfl (by kernel_rfl) (by kernel_rfl) (by kernel_rfl) (fun _ _ _ h => h) (by rfl) ?_ hS0 ?_
 rotate_left
 ·(intro X hX; have y0 := keepCell hX q0; have y1 := keepCell hX p0; have y2 := keepCell hX p1; have y3 := keepCell hX p2; have yl := HLK.out X hX; go_simp; try with_reducible rfl)
 try simp only [Act.put, List.setIfInBounds_toArray, List.set_cons_zero, List.set_cons_succ]
 refine take_h (i := 8) (v := ?_) rfl (by kernel_rfl) (by kernel_rfl) (by kernel_rfl) (fun _ _ _ h => h) (by rfl) ?_ hS0 ?_
 rotate_left
 ·(intro X hX; have y0 := keepCell hX q0; have y1 := keepCell hX p0; have y2 := keepCell hX p1; have y3 := keepCell hX p2; have yl := HLK.out X hX; go_simp; try with_reducible rfl)
 try simp only [Act.put, List.setIfInBounds_toArray, List.set_cons_zero, List.set_cons_succ]
 refine take_h (i := 9) (v := ?_) rfl (by kernel_rfl) (by kernel_rfl) (by kernel_rfl) (fun _ _ _ h => h) (by rfl) ?_ hS0 ?_
 rotate_left
 ·(intro X hX; have y0 := keepCell hX q0; have y1 := keepCell hX p0; have y2 := keepCell hX p1; have y3 := keepCell hX p2; have yl := HLK.out X hX; go_simp; try with_reducible rfl)
 try simp only [Act.put, List.setIfInBounds_toArray, List.set_cons_zero, List.set_cons_succ]
 refine take_h (i := 10) (v := ?_) rfl (by kernel_rfl) (by kernel_rfl) (by kernel_rfl) (fun _ _ _ h => h) (by rfl) ?_ hS0 ?_
 rotate_left
 ·(intro X hX; have y0 := keepCell hX q0; have y1 := keepCell hX p0; have y2 := keepCell hX p1; have y3 := keepCell hX p2; have yl := HLK.out X hX; go_simp; try with_reducible rfl)
 try simp only [Act.put, List.setIfInBounds_toArray, List.set_cons_zero, List.set_cons_succ]
 refine take_h (i := 11) (v := ?_) rfl (by kernel_rfl) (by kernel_rfl) (by kernel_rfl) (fun _ _ _ h => h) (by rfl) ?_ hS0 ?_
 rotate_left
 ·(intro X hX; have y0 := keepCell hX q0; have y1 := keepCell hX p0; have y2 := keepCell hX p1; have y3 := keepCell hX p2; have yl := HLK.out X hX; go_simp; try with_reducible rfl)
 try simp only [Act.put, List.setIfInBounds_toArray, List.set_cons_zero, List.set_cons_succ]
 refine take_h (i := 12) (v := ?_) rfl (by kernel_rfl) (by kernel_rfl) (by kernel_rfl) (fun _ _ _ h => h) (by rfl) ?_ hS0 ?_
 rotate_left
 ·(intro X hX; have y0 := keepCell hX q0; have y1 := keepCell hX p0; have y2 := keepCell hX p1; have y3 := keepCell hX p2; have yl := HLK.out X hX; go_simp; try with_reducible rfl)
 try simp only [Act.put, List.setIfInBounds_toArray, List.set_cons_zero, List.set_cons_succ]
 refine wpAnyH_done (by kernel_rfl) ?_ _
 have HT1 := hid (HTW.out.onto hS0)
 have HK1 := hid (HK.out.trans (Kp.of (B := B) hS0))
 have HBO := hid (vonto HBW0.out hS0)
 clear HLK p0 p1 p2 q0 HTW HK hS0
 go_wp2_with fail
 go_ret
 exact ⟨rfl, HT1.out, HK1.out, HBO.out⟩
set_option maxRecDepth 100000 in
set_option maxHeartbeats 4000000 in
theorem part_oldK (B : Nat) (w : World) (tb m g c : Nat) (E : List NE) (M : Ways) (h : TM B w tb m (.slice (some ⟨g, 0, none⟩) E.length c) E M) (a : Nat) (e : NE) (he : E[a]? = some e) (s : PStep) (lf : Nat) (hs : OkS s) (hpl : s.place = false) (hno : s.at_ = 0) (hl : E.length ≤ 10000000) (_hc : E.length ≤ c) (_hM : M.length ≤ 10000000) (_hp : e.d.ps.length ≤ 10000000) (_hlf : lf ≤ 10000000) (b : Nat) (hf : mpF M (a, s) = some b) :
  Calls Tryz.prog 92 #[.pointer (some ⟨tb, 0, none⟩), .int .i64 (a : Int), pv s, .int .i64 (lf : Int)] w fun r w' => r = .returned (.int .i64 (b : Int)) ∧ TM B w' tb m (.slice (some ⟨g, 0, none⟩) E.length c) E M ∧ Kp B w w' ∧ Below w.heap.size w w' := by
 have ha := lt_of_some he
 have HT := hid h
 have HE := hid he
 have hok : wyO (a, s) := ⟨by show a ≤ _; omega, hs⟩
 have HOK := hid hok
 have HNO := hid hno
 obtain ⟨sk, sa, sp⟩ := s
 simp only at hpl hno
 subst hpl hno
 have HF := hid hf
 clear h he hs hok hf
 unfold pv
 go_enter Tryz.func92, Tryz.ntmps92
 go_upto_region 4 with fail
 refine cewp_gen ?_
 intro W hW
 have hbW : Below w.heap.size w W := by
  rw [hW]
  first | exact valloc_bel (Below.refl _ _) _ | exact vset_bel (valloc_bel (Below.refl _ _) _) (Nat.le_refl _)
 have p0 : W.cell? ⟨w.heap.size, 0, none⟩ = some (.string sk) := by rw [hW]; simp
 have p1 : W.cell? ⟨w.heap.size, 1, none⟩ = some (.int .i64 0) := by rw [hW]; simp
 have p2 : W.cell? ⟨w.heap.size, 2, none⟩ = some (.bool false) := by rw [hW]; simp
 have hwW : w.heap.size < W.heap.size := by rw [hW]; simp
 have hTW := HT.out.onto hbW
 obtain ⟨-, q0, -⟩ := hTW.cells
 have HLK : Hid (∀ X : World, Below W.heap.size W X → (Instr.lookup 98 (.map (some m)) (.agg #[.int .i64 (a : Int), .string sk, .int .i64 0, .bool false]) true).run Tryz.prog X = .ok (.tuple #[.int .i64 ((b : Nat) : Int), .bool true]) X) := hid (fun X hX => by
  have := mp_look wy_kr (hTW.onto hX).mp hTW.mo 98 (by kernel_rfl) (a, ⟨sk, 0, false⟩) HOK.out
  rw [HF.out] at this
  exact this)
 have HBW0 := hid hbW
 have HTW := hid hTW
 have HK := hid (Kp.of (B := B) hbW)
 have hS0 : Below W.heap.size W W.drew := (Below.refl _ _).drew
 clear hW hbW hTW HT HF
 refine wp_region_h (S := fun X => Below W.heap.size W X) 13 (by kernel_rfl) (by kernel_rfl) ?_
 refine take_h (i := 0) (v := ?_) rfl (by kernel_rfl) (by kernel_rfl) (by kernel_rfl) (fun _ _ _ h => h) (by rfl) ?_ hS0 ?_
 rotate_left
 ·(intro X hX; have y0 := keepCell hX q0; have y1 := keepCell hX p0; have y2 := keepCell hX p1; have y3 := keepCell hX p2; have yl := HLK.out X hX; go_simp; try with_reducible rfl)
 try simp only [Act.put, List.setIfInBounds_toArray, List.set_cons_zero, List.set_cons_succ]
 refine take_h (i := 1) (v := ?_) rfl (by kernel_rfl) (by kernel_rfl) (by kernel_rfl) (fun _ _ _ h => h) (by rfl) ?_ hS0 ?_
 rotate_left
 ·(intro X hX; have y0 := keepCell hX q0; have y1 := keepCell hX p0; have y2 := keepCell hX p1; have y3 := keepCell hX p2; have yl := HLK.out X hX; go_simp; try with_reducible rfl)
 try simp only [Act.put, List.setIfInBounds_toArray, List.set_cons_zero, List.set_cons_succ]
 refine take_h (i := 2) (v := ?_) rfl (by kernel_rfl) (by kernel_rfl) (by kernel_rfl) (fun _ _ _ h => h) (by rfl) ?_ hS0 ?_
 rotate_left
 ·(intro X hX; have y0 := keepCell hX q0; have y1 := keepCell hX p0; have y2 := keepCell hX p1; have y3 := keepCell hX p2; have yl := HLK.out X hX; go_simp; try with_reducible rfl)
 try simp only [Act.put, List.setIfInBounds_toArray, List.set_cons_zero, List.set_cons_succ]
 refine take_h (i := 3) (v := ?_) rfl (by kernel_rfl) (by kernel_rfl) (by kernel_rfl) (fun _ _ _ h => h) (by rfl) ?_ hS0 ?_
 rotate_left
 ·(intro X hX; have y0 := keepCell hX q0; have y1 := keepCell hX p0; have y2 := keepCell hX p1; have y3 := keepCell hX p2; have yl := HLK.out X hX; go_simp; try with_reducible rfl)
 try simp only [Act.put, List.setIfInBounds_toArray, List.set_cons_zero, List.set_cons_succ]
 refine take_h (i := 4) (v := ?_) rfl (by kernel_rfl) (by kernel_rfl) (by kernel_rfl) (fun _ _ _ h => h) (by rfl) ?_ hS0 ?_
 rotate_left
 ·(intro X hX; have y0 := keepCell hX q0; have y1 := keepCell hX p0; have y2 := keepCell hX p1; have y3 := keepCell hX p2; have yl := HLK.out X hX; go_simp; try with_reducible rfl)
 try simp only [Act.put, List.setIfInBounds_toArray, List.set_cons_zero, List.set_cons_succ]
 refine take_h (i := 5) (v := ?_) rfl (by kernel_rfl) (by kernel_rfl) (by kernel_rfl) (fun _ _ _ h => h) (by rfl) ?_ hS0 ?_
 rotate_left
 ·(intro X hX; have y0 := keepCell hX q0; have y1 := keepCell hX p0; have y2 := keepCell hX p1; have y3 := keepCell hX p2; have yl := HLK.out X hX; go_simp; try with_reducible rfl)
 try simp only [Act.put, List.setIfInBounds_toArray, List.set_cons_zero, List.set_cons_succ]
 refine take_h (i := 6) (v := ?_) rfl (by kernel_rfl) (by kernel_rfl) (by kernel_rfl) (fun _ _ _ h => h) (by rfl) ?_ hS0 ?_
 rotate_left
 ·(intro X hX; have y0 := keepCell hX q0; have y1 := keepCell hX p0; have y2 := keepCell hX p1; have y3 := keepCell hX p2; have yl := HLK.out X hX; go_simp; try with_reducible rfl)
 try simp only [Act.put, List.setIfInBounds_toArray, List.set_cons_zero, List.set_cons_succ]
 refine take_h (i := 7) (v := ?_) rfl (by kernel_rfl) (by kernel_rfl) (by kernel_rfl) (fun _ _ _ h => h) (by rfl) ?_ hS0 ?_
 rotate_left
 ·(intro X hX; have y0 := keepCell hX q0; have y1 := keepCell hX p0; have y2 := keepCell hX p1; have y3 := keepCell hX p2; have yl := HLK.out X hX; go_simp; try with_reducible rfl)
 try simp only [Act.put, List.setIfInBounds_toArray, List.set_cons_zero, List.set_cons_succ]
 refine take_h (i := 8) (v := ?_) rfl (by kernel_rfl) (by kernel_rfl) (by kernel_rfl) (fun _ _ _ h => h) (by rfl) ?_ hS0 ?_
 rotate_left
 ·(intro X hX; have y0 := keepCell hX q0; have y1 := keepCell hX p0; have y2 := keepCell hX p1; have y3 := keepCell hX p2; have yl := HLK.out X hX; go_simp; try with_reducible rfl)
 try simp only [Act.put, List.setIfInBounds_toArray, List.set_cons_zero, List.set_cons_succ]
 refine take_h (i := 9) (v := ?_) rfl (by kernel_rfl) (by kernel_rfl) (by kernel_rfl) (fun _ _ _ h => h) (by rfl) ?_ hS0 ?_
 rotate_left
 ·(intro X hX; have y0 := keepCell hX q0; have y1 := keepCell hX p0; have y2 := keepCell hX p1; have y3 := keepCell hX p2; have yl := HLK.out X hX; go_simp; try with_reducible rfl)
 try simp only [Act.put, List.setIfInBounds_toArray, List.set_cons_zero, List.set_cons_succ]
 refine take_h (i := 10) (v := ?_) rfl (by kernel_rfl) (by kernel_rfl) (by kernel_rfl) (fun _ _ _ h => h) (by rfl) ?_ hS0 ?_
 rotate_left
 ·(intro X hX; have y0 := keepCell hX q0; have y1 := keepCell hX p0; have y2 := keepCell hX p1; have y3 := keepCell hX p2; have yl := HLK.out X hX; go_simp; try with_reducible rfl)
 try simp only [Act.put, List.setIfInBounds_toArray, List.set_cons_zero, List.set_cons_succ]
 refine take_h (i := 11) (v := ?_) rfl (by kernel_rfl) (by kernel_rfl) (by kernel_rfl) (fun _ _ _ h => h) (by rfl) ?_ hS0 ?_
 rotate_left
 ·(intro X hX; have y0 := keepCell hX q0; have y1 := keepCell hX p0; have y2 := keepCell hX p1; have y3 := keepCell hX p2; have yl := HLK.out X hX; go_simp; try with_reducible rfl)
 try simp only [Act.put, List.setIfInBounds_toArray, List.set_cons_zero, List.set_cons_succ]
 refine take_h (i := 12) (v := ?_) rfl (by kernel_rfl) (by kernel_rfl) (by kernel_rfl) (fun _ _ _ h => h) (by rfl) ?_ hS0 ?_
 rotate_left
 ·(intro X hX; have y0 := keepCell hX q0; have y1 := keepCell hX p0; have y2 := keepCell hX p1; have y3 := keepCell hX p2; have yl := HLK.out X hX; go_simp; try with_reducible rfl)
 try simp only [Act.put, List.setIfInBounds_toArray, List.set_cons_zero, List.set_cons_succ]
 refine wpAnyH_done (by kernel_rfl) ?_ _
 have HT1 := hid (HTW.out.onto hS0)
 have HK1 := hid (HK.out.trans (Kp.of (B := B) hS0))
 have HBO := hid (vonto HBW0.out hS0)
 clear HLK p0 p1 p2 q0 HTW HK hS0
 go_wp2_with fail
 go_ret
 exact ⟨rfl, HT1.out, HK1.out, HBO.out⟩
set_option maxRecDepth 100000 in
set_option maxHeartbeats 4000000 in
theorem part_newP (B : Nat) (w : World) (tb m g c : Nat) (E : List NE) (M : Ways) (h : TM B w tb m (.slice (some ⟨g, 0, none⟩) E.length c) E M) (a : Nat) (e : NE) (he : E[a]? = some e) (s : PStep) (lf : Nat) (hs : OkS s) (hpl : s.place = true) (hno : s.key = ⟨#[]⟩) (hl : E.length ≤ 10000000) (_hc : E.length ≤ c) (hM : M.length ≤ 10000000) (hp : e.d.ps.length ≤ 10000000) (_hlf : lf ≤ 10000000) (hf : mpF M (a, s) = none) (hgw : ¬ g = w.heap.size) :
  Calls Tryz.prog 92 #[.pointer (some ⟨tb, 0, none⟩), .int .i64 (a : Int), pv s, .int .i64 (lf : Int)] w fun r w' => r = .returned (.int .i64 (E.length : Int)) ∧ PartNew B w tb m g E M a e s lf w' := by
 have ha := lt_of_some he
 have HT := hid h
 have HE := hid he
 have hok : wyO (a, s) := ⟨by show a ≤ _; omega, hs⟩
 have HOK := hid hok
 have HNO := hid hno
 obtain ⟨sk, sa, sp⟩ := s
 simp only at hpl hno
 subst hpl hno
 have HF := hid hf
 have HGW := hid hgw
 have HTL := hid (show ¬ w.heap.size = tb from fun e => by have := HT.out.lt; omega)
 clear h he hs hok hf hgw
 unfold pv
 go_enter Tryz.func92, Tryz.ntmps92
 go_upto_region 4 with fail
 refine cewp_gen ?_
 intro W hW
 have hbW : Below w.heap.size w W := by
  rw [hW]
  first | exact valloc_bel (Below.refl _ _) _ | exact vset_bel (valloc_bel (Below.refl _ _) _) (Nat.le_refl _)
 have p0 : W.cell? ⟨w.heap.size, 0, none⟩ = some (.string ⟨#[]⟩) := by rw [hW]; simp
 have p1 : W.cell? ⟨w.heap.size, 1, none⟩ = some (.int .i64 sa) := by rw [hW]; simp
 have p2 : W.cell? ⟨w.heap.size, 2, none⟩ = some (.bool true) := by rw [hW]; simp
 have hwW : w.heap.size < W.heap.size := by rw [hW]; simp
 have hTW := HT.out.onto hbW
 obtain ⟨-, q0, -⟩ := hTW.cells
 have HLK : Hid (∀ X : World, Below W.heap.size W X → (Instr.lookup 98 (.map (some m)) (.agg #[.int .i64 (a : Int), .string ⟨#[]⟩, .int .i64 sa, .bool true]) true).run Tryz.prog X = .ok (.tuple #[.int .i64 (0), .bool false]) X) := hid (fun X hX => by
  have := mp_look wy_kr (hTW.onto hX).mp hTW.mo 98 (by kernel_rfl) (a, ⟨⟨#[]⟩, sa, true⟩) HOK.out
  rw [HF.out] at this
  exact this)
 have HBW0 := hid hbW
 have HTW := hid hTW
 have HK := hid (Kp.of (B := B) hbW)
 have hS0 : Below W.heap.size W W.drew := (Below.refl _ _).drew
 clear hW hbW hTW HT HF
 refine wp_region_h (S := fun X => Below W.heap.size W X) 13 (by kernel_rfl) (by kernel_rfl) ?_
 refine take_h (i := 0) (v := ?_) rfl (by kernel_rfl) (by kernel_rfl) (by kernel_rfl) (fun _ _ _ h => h) (by rfl) ?_ hS0 ?_
 rotate_left
 ·(intro X hX; have y0 := keepCell hX q0; have y1 := keepCell hX p0; have y2 := keepCell hX p1; have y3 := keepCell hX p2; have yl := HLK.out X hX; go_simp; try with_reducible rfl)
 try simp only [Act.put, List.setIfInBounds_toArray, List.set_cons_zero, List.set_cons_succ]
 refine take_h (i := 1) (v := ?_) rfl (by kernel_rfl) (by kernel_rfl) (by kernel_rfl) (fun _ _ _ h => h) (by rfl) ?_ hS0 ?_
 rotate_left
 ·(intro X hX; have y0 := keepCell hX q0; have y1 := keepCell hX p0; have y2 := keepCell hX p1; have y3 := keepCell hX p2; have yl := HLK.out X hX; go_simp; try with_reducible rfl)
 try simp only [Act.put, List.setIfInBounds_toArray, List.set_cons_zero, List.set_cons_succ]
 refine take_h (i := 2) (v := ?_) rfl (by kernel_rfl) (by kernel_rfl) (by kernel_rfl) (fun _ _ _ h => h) (by rfl) ?_ hS0 ?_
 rotate_left
 ·(intro X hX; have y0 := keepCell hX q0; have y1 := keepCell hX p0; have y2 := keepCell hX p1; have y3 := keepCell hX p2; have yl := HLK.out X hX; go_simp; try with_reducible rfl)
 try simp only [Act.put, List.setIfInBounds_toArray, List.set_cons_zero, List.set_cons_succ]
 refine take_h (i := 3) (v := ?_) rfl (by kernel_rfl) (by kernel_rfl) (by kernel_rfl) (fun _ _ _ h => h) (by rfl) ?_ hS0 ?_
 rotate_left
 ·(intro X hX; have y0 := keepCell hX q0; have y1 := keepCell hX p0; have y2 := keepCell hX p1; have y3 := keepCell hX p2; have yl := HLK.out X hX; go_simp; try with_reducible rfl)
 try simp only [Act.put, List.setIfInBounds_toArray, List.set_cons_zero, List.set_cons_succ]
 refine take_h (i := 4) (v := ?_) rfl (by kernel_rfl) (by kernel_rfl) (by kernel_rfl) (fun _ _ _ h => h) (by rfl) ?_ hS0 ?_
 rotate_left
 ·(intro X hX; have y0 := keepCell hX q0; have y1 := keepCell hX p0; have y2 := keepCell hX p1; have y3 := keepCell hX p2; have yl := HLK.out X hX; go_simp; try with_reducible rfl)
 try simp only [Act.put, List.setIfInBounds_toArray, List.set_cons_zero, List.set_cons_succ]
 refine take_h (i := 5) (v := ?_) rfl (by kernel_rfl) (by kernel_rfl) (by kernel_rfl) (fun _ _ _ h => h) (by rfl) ?_ hS0 ?_
 rotate_left
 ·(intro X hX; have y0 := keepCell hX q0; have y1 := keepCell hX p0; have y2 := keepCell hX p1; have y3 := keepCell hX p2; have yl := HLK.out X hX; go_simp; try with_reducible rfl)
 try simp only [Act.put, List.setIfInBounds_toArray, List.set_cons_zero, List.set_cons_succ]
 refine take_h (i := 6) (v := ?_) rfl (by kernel_rfl) (by kernel_rfl) (by kernel_rfl) (fun _ _ _ h => h) (by rfl) ?_ hS0 ?_
 rotate_left
 ·(intro X hX; have y0 := keepCell hX q0; have y1 := keepCell hX p0; have y2 := keepCell hX p1; have y3 := keepCell hX p2; have yl := HLK.out X hX; go_simp; try with_reducible rfl)
 try simp only [Act.put, List.setIfInBounds_toArray, List.set_cons_zero, List.set_cons_succ]
 refine take_h (i := 7) (v := ?_) rfl (by kernel_rfl) (by kernel_rfl) (by kernel_rfl) (fun _ _ _ h => h) (by rfl) ?_ hS0 ?_
 rotate_left
 ·(intro X hX; have y0 := keepCell hX q0; have y1 := keepCell hX p0; have y2 := keepCell hX p1; have y3 := keepCell hX p2; have yl := HLK.out X hX; go_simp; try with_reducible rfl)
 try simp only [Act.put, List.setIfInBounds_toArray, List.set_cons_zero, List.set_cons_succ]
 refine take_h (i := 8) (v := ?_) rfl (by kernel_rfl) (by kernel_rfl) (by kernel_rfl) (fun _ _ _ h => h) (by rfl) ?_ hS0 ?_
 rotate_left
 ·(intro X hX; have y0 := keepCell hX q0; have y1 := keepCell hX p0; have y2 := keepCell hX p1; have y3 := keepCell hX p2; have yl := HLK.out X hX; go_simp; try with_reducible rfl)
 try simp only [Act.put, List.setIfInBounds_toArray, List.set_cons_zero, List.set_cons_succ]
 refine take_h (i := 9) (v := ?_) rfl (by kernel_rfl) (by kernel_rfl) (by kernel_rfl) (fun _ _ _ h => h) (by rfl) ?_ hS0 ?_
 rotate_left
 ·(intro X hX; have y0 := keepCell hX q0; have y1 := keepCell hX p0; have y2 := keepCell hX p1; have y3 := keepCell hX p2; have yl := HLK.out X hX; go_simp; try with_reducible rfl)
 try simp only [Act.put, List.setIfInBounds_toArray, List.set_cons_zero, List.set_cons_succ]
 refine take_h (i := 10) (v := ?_) rfl (by kernel_rfl) (by kernel_rfl) (by kernel_rfl) (fun _ _ _ h => h) (by rfl) ?_ hS0 ?_
 rotate_left
 ·(intro X hX; have y0 := keepCell hX q0; have y1 := keepCell hX p0; have y2 := keepCell hX p1; have y3 := keepCell hX p2; have yl := HLK.out X hX; go_simp; try with_reducible rfl)
 try simp only [Act.put, List.setIfInBounds_toArray, List.set_cons_zero, List.set_cons_succ]
 refine take_h (i := 11) (v := ?_) rfl (by kernel_rfl) (by kernel_rfl) (by kernel_rfl) (fun _ _ _ h => h) (by rfl) ?_ hS0 ?_
 rotate_left
 ·(intro X hX; have y0 := keepCell hX q0; have y1 := keepCell hX p0; have y2 := keepCell hX p1; have y3 := keepCell hX p2; have yl := HLK.out X hX; go_simp; try with_reducible rfl)
 try simp only [Act.put, List.setIfInBounds_toArray, List.set_cons_zero, List.set_cons_succ]
 refine take_h (i := 12) (v := ?_) rfl (by kernel_rfl) (by kernel_rfl) (by kernel_rfl) (fun _ _ _ h => h) (by rfl) ?_ hS0 ?_
 rotate_left
 ·(intro X hX; have y0 := keepCell hX q0; have y1 := keepCell hX p0; have y2 := keepCell hX p1; have y3 := keepCell hX p2; have yl := HLK.out X hX; go_simp; try with_reducible rfl)
 try simp only [Act.put, List.setIfInBounds_toArray, List.set_cons_zero, List.set_cons_succ]
 refine wpAnyH_done (by kernel_rfl) ?_ _
 have HT1 := hid (HTW.out.onto hS0)
 have HK1 := hid (HK.out.trans (Kp.of (B := B) hS0))
 have HBO := hid (vonto HBW0.out hS0)
 have p0 := keepCell hS0 p0
 have p1 := keepCell hS0 p1
 have p2 := keepCell hS0 p2
 have hz1 : w.heap.size < W.drew.heap.size := hwW
 obtain ⟨v0, -, -⟩ := HT1.out.cells
 clear HLK q0 HTW HK hS0
 generalize W.drew = W1 at *
 go_wp2_with fail
 have hS0 : Below W1.heap.size W1 W1.drew := (Below.refl _ _).drew
 obtain ⟨i1, hi', hz0', hz1', hz2'⟩ := info_parts Tryz.infoNode
 have hvb : ∀ k, (Value.slice (some ⟨g, 0, none⟩) E.length c).ownBlock = some k → k < W1.heap.size := fun k hk => (HT1.out.ns.lt k hk).2
 refine wp_region_ends2 (S := fun X => X.cell? ⟨tb, 0, none⟩ = some (.slice (some ⟨g, 0, none⟩) E.length c) ∧ X.cell? ⟨w.heap.size, 0, none⟩ = some (.string ⟨#[]⟩) ∧ X.cell? ⟨w.heap.size, 1, none⟩ = some (.int .i64 sa) ∧ X.cell? ⟨w.heap.size, 2, none⟩ = some (.bool true)) (by simp) (by kernel_rfl) (by kernel_rfl) (by kernel_rfl) (by kernel_rfl) (by kernel_rfl) (by kernel_rfl) ?_
 simp only [List.dropLast, List.getLast_cons_cons, List.getLast_singleton, List.length_cons, List.length_nil]
 have hS1 : W1.drew.cell? ⟨tb, 0, none⟩ = some (.slice (some ⟨g, 0, none⟩) E.length c) ∧ W1.drew.cell? ⟨w.heap.size, 0, none⟩ = some (.string ⟨#[]⟩) ∧ W1.drew.cell? ⟨w.heap.size, 1, none⟩ = some (.int .i64 sa) ∧ W1.drew.cell? ⟨w.heap.size, 2, none⟩ = some (.bool true) := ⟨v0, p0, p1, p2⟩
 refine take_h (i := 0) (v := ?_) rfl (by kernel_rfl) (by kernel_rfl) (by kernel_rfl) (fun _ _ _ h => h) (by rfl) ?_ hS1 ?_
 rotate_left
 ·(intro X hX; obtain ⟨y0, y1, y2, y3⟩ := hX; go_simp; try with_reducible rfl)
 try simp only [Act.put, List.setIfInBounds_toArray, List.set_cons_zero, List.set_cons_succ]
 refine take_h (i := 1) (v := ?_) rfl (by kernel_rfl) (by kernel_rfl) (by kernel_rfl) (fun _ _ _ h => h) (by rfl) ?_ hS1 ?_
 rotate_left
 ·(intro X hX; obtain ⟨y0, y1, y2, y3⟩ := hX; go_simp; try with_reducible rfl)
 try simp only [Act.put, List.setIfInBounds_toArray, List.set_cons_zero, List.set_cons_succ]
 refine take_h (i := 2) (v := ?_) rfl (by kernel_rfl) (by kernel_rfl) (by kernel_rfl) (fun _ _ _ h => h) (by rfl) ?_ hS1 ?_
 rotate_left
 ·(intro X hX; obtain ⟨y0, y1, y2, y3⟩ := hX; go_simp; try with_reducible rfl)
 try simp only [Act.put, List.setIfInBounds_toArray, List.set_cons_zero, List.set_cons_succ]
 refine take_h (i := 3) (v := ?_) rfl (by kernel_rfl) (by kernel_rfl) (by kernel_rfl) (fun _ _ _ h => h) (by rfl) ?_ hS1 ?_
 rotate_left
 ·(intro X hX; obtain ⟨y0, y1, y2, y3⟩ := hX; go_simp; try with_reducible rfl)
 try simp only [Act.put, List.setIfInBounds_toArray, List.set_cons_zero, List.set_cons_succ]
 refine take_h (i := 4) (v := ?_) rfl (by kernel_rfl) (by kernel_rfl) (by kernel_rfl) (fun _ _ _ h => h) (by rfl) ?_ hS1 ?_
 rotate_left
 ·(intro X hX; obtain ⟨y0, y1, y2, y3⟩ := hX; go_simp; try with_reducible rfl)
 try simp only [Act.put, List.setIfInBounds_toArray, List.set_cons_zero, List.set_cons_succ]
 refine take_h (i := 5) (v := ?_) rfl (by kernel_rfl) (by kernel_rfl) (by kernel_rfl) (fun _ _ _ h => h) (by rfl) ?_ hS1 ?_
 rotate_left
 ·(intro X hX; obtain ⟨y0, y1, y2, y3⟩ := hX; go_simp; try with_reducible rfl)
 try simp only [Act.put, List.setIfInBounds_toArray, List.set_cons_zero, List.set_cons_succ]
 refine take_h (i := 6) (v := ?_) rfl (by kernel_rfl) (by kernel_rfl) (by kernel_rfl) (fun _ _ _ h => h) (by rfl) ?_ hS1 ?_
 rotate_left
 ·(intro X hX; obtain ⟨y0, y1, y2, y3⟩ := hX; go_simp; try with_reducible rfl)
 try simp only [Act.put, List.setIfInBounds_toArray, List.set_cons_zero, List.set_cons_succ]
 refine take_h (i := 7) (v := ?_) rfl (by kernel_rfl) (by kernel_rfl) (by kernel_rfl) (fun _ _ _ h => h) (by rfl) ?_ hS1 ?_
 rotate_left
 ·(intro X hX; obtain ⟨y0, y1, y2, y3⟩ := hX; go_simp; try with_reducible rfl)
 try simp only [Act.put, List.setIfInBounds_toArray, List.set_cons_zero, List.set_cons_succ]
 refine step_h (i := 8) rfl (by kernel_rfl) ?_
 intro KK hKK
 go_simp
 have hbx : Below W1.heap.size W1 (W1.drew.alloc (.cells #[.int .i64 0, .string ⟨#[]⟩, .int .i64 sa, .bool true, .int .i64 (lf : Int), .slice none 0 0] 152)) := vonto hS0 (valloc_bel (Below.refl _ _) _)
 refine hKK.out _ _ ⟨keepCell hbx v0, keepCell hbx p0, keepCell hbx p1, keepCell hbx p2⟩ (fun hS3 => ?_)
 clear hKK KK hS1
 refine step_h (i := 9) rfl (by kernel_rfl) ?_
 intro KK hKK
 have hT2 := HT1.out.onto hbx
 refine step_append_lies _ (by rfl) _ _ _ (by rfl) B 152 i1 (.agg #[.int .i64 0, .string ⟨#[]⟩, .int .i64 0, .bool false, .int .i64 0, .slice none 0 0]) 6 72 Tryz.underlying97 hi' hz0' hz1' hz2' rfl (by decide) _ E.length _ (by rfl) hT2.ns ⟨W1.drew.heap.size, 0, none⟩ 1 1 [.int .i64 0, .string ⟨#[]⟩, .int .i64 sa, .bool true, .int .i64 (lf : Int), .slice none 0 0] (by rfl) rfl (new_cells W1.drew _ 152) (by intro u hu; simp at hu; rcases hu with rfl | rfl | rfl | rfl | rfl | rfl <;> rfl) (by decide) (by unfold maxLen; omega) (by omega) hT2.wlo (W1.drew.heap.size + 1) (by simp) ?_
 intro g9 cap9 w9 hown9 hgr9 hat9 hlt9
 have hd := hT2.more ⟨0, ⟨⟨#[]⟩, sa, true⟩, lf, []⟩ rfl hown9 hgr9
 have hbx9 := (hgr9.block tb hT2.lt (off_ne (own_off hT2.ns hT2.box (by decide)))).trans hT2.box
 have c90 : w9.cell? ⟨tb, 0, none⟩ = some (.slice (some ⟨g, 0, none⟩) E.length c) := by rw [cell_of_row w9 tb 0 _ _ _ hbx9]; rfl
 have hf9 : w9.frozen? ⟨tb, 0, none⟩ = false := by simp [World.frozen?, hbx9]
 have hsz9 := hgr9.size
 have hxs := hbx.size
 have kp9 : ∀ (o : Nat) (u : Value), W1.cell? ⟨w.heap.size, o, none⟩ = some u → w9.cell? ⟨w.heap.size, o, none⟩ = some u := fun o u h => by
  rw [World.cell?_of_block (hgr9.block w.heap.size (Nat.lt_of_lt_of_le hz1 hxs) (fun e => by
   have h1 : w.heap.size = g := by simpa [Value.ownBlock] using e
   have h2 := HGW.out
   omega))]
  exact keepCell hbx h
 refine hKK.out _ _ ⟨c90, kp9 _ _ p0, kp9 _ _ p1, kp9 _ _ p2⟩ (fun hS4 => ?_)
 clear hKK KK hS3
 simp only [Act.put, List.setIfInBounds_toArray, List.set_cons_zero, List.set_cons_succ]
 refine take_h (i := 10) (v := ?_) rfl (by kernel_rfl) (by kernel_rfl) (by kernel_rfl) (fun _ _ _ h => h) (by rfl) ?_ hS4 ?_
 rotate_left
 ·(intro X hX; obtain ⟨y0, y1, y2, y3⟩ := hX; go_simp; try with_reducible rfl)
 try simp only [Act.put, List.setIfInBounds_toArray, List.set_cons_zero, List.set_cons_succ]
 refine take_h (i := 11) (v := ?_) rfl (by kernel_rfl) (by kernel_rfl) (by kernel_rfl) (fun _ _ _ h => h) (by rfl) ?_ hS4 ?_
 rotate_left
 ·(intro X hX; obtain ⟨y0, y1, y2, y3⟩ := hX; go_simp; try with_reducible rfl)
 try simp only [Act.put, List.setIfInBounds_toArray, List.set_cons_zero, List.set_cons_succ]
 refine wpAnyH_done (by kernel_rfl) ?_ _
 change Oper.wp _ _ _ _ _ _
 have p0 := kp9 _ _ p0
 have p1 := kp9 _ _ p1
 have p2 := kp9 _ _ p2
 have HT3 := hid hd.1
 have HK3 := hid (HK1.out.trans ((Kp.of (B := B) hbx).trans hd.2))
 have hne : ¬ w.heap.size = tb := HTL.out
 replace p0 : (w9.setCell ⟨tb, 0, none⟩ (.slice (some ⟨g9, 0, none⟩) (E.length + 1) cap9)).cell? ⟨w.heap.size, 0, none⟩ = some (.string ⟨#[]⟩) := by rw [set_other _ _ _ _ _ _ (.inl (fun e => hne e.symm))]; exact p0
 replace p1 : (w9.setCell ⟨tb, 0, none⟩ (.slice (some ⟨g9, 0, none⟩) (E.length + 1) cap9)).cell? ⟨w.heap.size, 1, none⟩ = some (.int .i64 sa) := by rw [set_other _ _ _ _ _ _ (.inl (fun e => hne e.symm))]; exact p1
 replace p2 : (w9.setCell ⟨tb, 0, none⟩ (.slice (some ⟨g9, 0, none⟩) (E.length + 1) cap9)).cell? ⟨w.heap.size, 2, none⟩ = some (.bool true) := by rw [set_other _ _ _ _ _ _ (.inl (fun e => hne e.symm))]; exact p2
 have HF2 := hid (show (∀ b, b < w.heap.size → ¬ b = tb → ¬ b = g → (w9.setCell ⟨tb, 0, none⟩ (.slice (some ⟨g9, 0, none⟩) (E.length + 1) cap9)).heap[b]? = w.heap[b]?) ∧ (g9 = g ∨ w.heap.size ≤ g9) ∧ w.heap.size ≤ w9.heap.size from
  ⟨fun b hb h1 h2 => by
   have L1 := Nat.lt_of_lt_of_le hb (Nat.le_trans (Nat.le_of_lt hz1) hxs)
   have L2 := Nat.lt_of_lt_of_le L1 hsz9
   have L3 := Nat.lt_of_lt_of_le hb (Nat.le_of_lt hz1)
   exact ((set_grownW w9 tb 0 _).block b L2 (fun e => h1 (by injection e))).trans ((hgr9.block b L1 (fun e => h2 (by simpa [Value.ownBlock] using e))).trans ((hbx.block b L3).trans (HBO.out.block b hb))), by
   rcases hat9 with h | h
   ·left; exact (show g = g9 by simpa [Value.ownBlock] using h).symm
   ·right; rw [h]; exact Nat.le_trans (Nat.le_of_lt hz1) (Nat.le_succ _), Nat.le_trans (Nat.le_of_lt (Nat.lt_of_lt_of_le hz1 hxs)) hsz9⟩)
 clear hd hgr9 hown9 hS4 hT2 hbx9 hat9 hlt9 hi' hz0' hz1' hz2' v0 kp9 hbx hvb HT1 HK1 hxs
 go_simp
 have HZ2 := hid (show w.heap.size ≤ (w9.setCell ⟨tb, 0, none⟩ (.slice (some ⟨g9, 0, none⟩) (E.length + 1) cap9)).heap.size by simpa using HF2.out.2.2)
 generalize w9.setCell ⟨tb, 0, none⟩ (.slice (some ⟨g9, 0, none⟩) (E.length + 1) cap9) = W2 at *
 have hs2 : w9.heap.size = w9.heap.size := rfl
 clear c90 hf9 hsz9 hS0 hs2
 go_wp2_with fail
 -- the way
 have hS0 : Below W2.heap.size W2 W2.drew := (Below.refl _ _).drew
 have HT4 := hid (HT3.out.onto hS0)
 obtain ⟨-, v1, -⟩ := HT3.out.cells
 obtain ⟨w5, hrun, hm5, hg5⟩ := mp_put wy_kr HT4.out.mp 98 (by kernel_rfl) (a, ⟨⟨#[]⟩, sa, true⟩) HOK.out E.length (by omega) (by omega)
 obtain ⟨ht5, hk5⟩ := HT4.out.put _ _ HOK.out hm5 hg5
 have HT5 := hid ht5
 have HK5 := hid (HK3.out.trans ((Kp.of (B := B) hS0).trans hk5))
 have HF5 := hid (show ∀ b, b < w.heap.size → ¬ b = tb → ¬ b = g → ¬ b = m → w5.heap[b]? = w.heap[b]? from fun b hb h1 h2 h3 => (hg5.block b (by have := HZ2.out; have : W2.drew.heap.size = W2.heap.size := rfl; omega) (fun e => h3 (by injection e))).trans (HF2.out.1 b hb h1 h2))
 have HZ5 := hid (show w.heap.size ≤ w5.heap.size from by have := HZ2.out; have h := hg5.size; have : W2.drew.heap.size = W2.heap.size := rfl; omega)
 unfold wyV at hrun
 refine wp_region_ends2 (S := fun X => Below W2.heap.size W2 X) (by simp) (by kernel_rfl) (by kernel_rfl) (by kernel_rfl) (by kernel_rfl) (by kernel_rfl) (by kernel_rfl) ?_
 simp only [List.dropLast, List.getLast_cons_cons, List.getLast_singleton, List.length_cons, List.length_nil]
 refine take_h (i := 0) (v := ?_) rfl (by kernel_rfl) (by kernel_rfl) (by kernel_rfl) (fun _ _ _ h => h) (by rfl) ?_ hS0 ?_
 rotate_left
 ·(intro X hX; have y0 := keepCell hX v1; have y1 := keepCell hX p0; have y2 := keepCell hX p1; have y3 := keepCell hX p2; go_simp; try with_reducible rfl)
 try simp only [Act.put, List.setIfInBounds_toArray, List.set_cons_zero, List.set_cons_succ]
 refine take_h (i := 1) (v := ?_) rfl (by kernel_rfl) (by kernel_rfl) (by kernel_rfl) (fun _ _ _ h => h) (by rfl) ?_ hS0 ?_
 rotate_left
 ·(intro X hX; have y0 := keepCell hX v1; have y1 := keepCell hX p0; have y2 := keepCell hX p1; have y3 := keepCell hX p2; go_simp; try with_reducible rfl)
 try simp only [Act.put, List.setIfInBounds_toArray, List.set_cons_zero, List.set_cons_succ]
 refine take_h (i := 2) (v := ?_) rfl (by kernel_rfl) (by kernel_rfl) (by kernel_rfl) (fun _ _ _ h => h) (by rfl) ?_ hS0 ?_
 rotate_left
 ·(intro X hX; have y0 := keepCell hX v1; have y1 := keepCell hX p0; have y2 := keepCell hX p1; have y3 := keepCell hX p2; go_simp; try with_reducible rfl)
 try simp only [Act.put, List.setIfInBounds_toArray, List.set_cons_zero, List.set_cons_succ]
 refine take_h (i := 3) (v := ?_) rfl (by kernel_rfl) (by kernel_rfl) (by kernel_rfl) (fun _ _ _ h => h) (by rfl) ?_ hS0 ?_
 rotate_left
 ·(intro X hX; have y0 := keepCell hX v1; have y1 := keepCell hX p0; have y2 := keepCell hX p1; have y3 := keepCell hX p2; go_simp; try with_reducible rfl)
 try simp only [Act.put, List.setIfInBounds_toArray, List.set_cons_zero, List.set_cons_succ]
 refine take_h (i := 4) (v := ?_) rfl (by kernel_rfl) (by kernel_rfl) (by kernel_rfl) (fun _ _ _ h => h) (by rfl) ?_ hS0 ?_
 rotate_left
 ·(intro X hX; have y0 := keepCell hX v1; have y1 := keepCell hX p0; have y2 := keepCell hX p1; have y3 := keepCell hX p2; go_simp; try with_reducible rfl)
 try simp only [Act.put, List.setIfInBounds_toArray, List.set_cons_zero, List.set_cons_succ]
 refine take_h (i := 5) (v := ?_) rfl (by kernel_rfl) (by kernel_rfl) (by kernel_rfl) (fun _ _ _ h => h) (by rfl) ?_ hS0 ?_
 rotate_left
 ·(intro X hX; have y0 := keepCell hX v1; have y1 := keepCell hX p0; have y2 := keepCell hX p1; have y3 := keepCell hX p2; go_simp; try with_reducible rfl)
 try simp only [Act.put, List.setIfInBounds_toArray, List.set_cons_zero, List.set_cons_succ]
 refine take_h (i := 6) (v := ?_) rfl (by kernel_rfl) (by kernel_rfl) (by kernel_rfl) (fun _ _ _ h => h) (by rfl) ?_ hS0 ?_
 rotate_left
 ·(intro X hX; have y0 := keepCell hX v1; have y1 := keepCell hX p0; have y2 := keepCell hX p1; have y3 := keepCell hX p2; go_simp; try with_reducible rfl)
 try simp only [Act.put, List.setIfInBounds_toArray, List.set_cons_zero, List.set_cons_succ]
 refine take_h (i := 7) (v := ?_) rfl (by kernel_rfl) (by kernel_rfl) (by kernel_rfl) (fun _ _ _ h => h) (by rfl) ?_ hS0 ?_
 rotate_left
 ·(intro X hX; have y0 := keepCell hX v1; have y1 := keepCell hX p0; have y2 := keepCell hX p1; have y3 := keepCell hX p2; go_simp; try with_reducible rfl)
 try simp only [Act.put, List.setIfInBounds_toArray, List.set_cons_zero, List.set_cons_succ]
 refine wpAnyH_done (by kernel_rfl) ?_ _
 change Oper.wp _ _ _ _ _ _
 go_simp
 clear hS0 HT3 HT4 hm5 hg5 ht5 hk5 hrun v1 p0 p1 p2 HK3
 go_wp2_with fail
 -- the part
 obtain ⟨E1, hE1⟩ : ∃ E1, E ++ [⟨⟨0, ⟨⟨#[]⟩, sa, true⟩, lf, []⟩, .slice none 0 0⟩] = E1 := ⟨_, rfl⟩
 have hl1 : E1.length = E.length + 1 := by rw [← hE1]; simp
 rw [hE1, ← hl1] at HT5
 have he1 : E1[a]? = some e := by rw [← hE1, List.getElem?_append_left ha]; exact HE.out
 have HE1 := hid hE1
 have HL1 := hid hl1
 have ha1 : a < E1.length := by omega
 have hc1 : E1.length ≤ cap9 := by
  rcases HT5.out.ns.2 with ⟨e, -⟩ | ⟨_, _, _, e, -, -, h1, -⟩
  ·cases e
  ·injection e with _ _ e; rw [e]; exact h1
 have hem := List.mem_of_getElem? he1
 obtain ⟨v0, -, -⟩ := HT5.out.cells
 obtain ⟨ou, cu, hu⟩ := HT5.out.parts hem
 have n5 := HT5.out.at_ he1 5 _ rfl
 rw [hu] at n5
 have HU := hid hu
 have HE2 := hid he1
 have HC1 := hid hc1
 obtain ⟨i1, hi', hz0', hz1', hz2'⟩ := info_parts Tryz.infoInt1
 clear hl1 hE1 hc1 hu he1
 refine wp_region_ends2 (S := fun X => X.cell? ⟨tb, 0, none⟩ = some (.slice (some ⟨g9, 0, none⟩) E1.length cap9) ∧ X.cell? ⟨g9, a * 6 + 5, none⟩ = some (.slice ou e.d.ps.length cu)) (by simp) (by kernel_rfl) (by kernel_rfl) (by kernel_rfl) (by kernel_rfl) (by kernel_rfl) (by kernel_rfl) ?_
 simp only [List.dropLast, List.getLast_cons_cons, List.getLast_singleton, List.length_cons, List.length_nil]
 have hS1 : w5.drew.cell? ⟨tb, 0, none⟩ = some (.slice (some ⟨g9, 0, none⟩) E1.length cap9) ∧ w5.drew.cell? ⟨g9, a * 6 + 5, none⟩ = some (.slice ou e.d.ps.length cu) := ⟨v0, n5⟩
 refine take_h (i := 0) (v := ?_) rfl (by kernel_rfl) (by kernel_rfl) (by kernel_rfl) (fun _ _ _ h => h) (by rfl) ?_ hS1 ?_
 rotate_left
 ·(intro X hX; obtain ⟨y0, y1⟩ := hX; go_simp; try with_reducible rfl)
 try simp only [Act.put, List.setIfInBounds_toArray, List.set_cons_zero, List.set_cons_succ]
 refine take_h (i := 1) (v := ?_) rfl (by kernel_rfl) (by kernel_rfl) (by kernel_rfl) (fun _ _ _ h => h) (by rfl) ?_ hS1 ?_
 rotate_left
 ·(intro X hX; obtain ⟨y0, y1⟩ := hX; go_simp; try with_reducible rfl)
 try simp only [Act.put, List.setIfInBounds_toArray, List.set_cons_zero, List.set_cons_succ]
 refine take_h (i := 2) (v := ?_) rfl (by kernel_rfl) (by kernel_rfl) (by kernel_rfl) (fun _ _ _ h => h) (by rfl) ?_ hS1 ?_
 rotate_left
 ·(intro X hX; obtain ⟨y0, y1⟩ := hX; go_simp; try with_reducible rfl)
 try simp only [Act.put, List.setIfInBounds_toArray, List.set_cons_zero, List.set_cons_succ]
 refine take_h (i := 3) (v := ?_) rfl (by kernel_rfl) (by kernel_rfl) (by kernel_rfl) (fun _ _ _ h => h) (by rfl) ?_ hS1 ?_
 rotate_left
 ·(intro X hX; obtain ⟨y0, y1⟩ := hX; go_simp; try with_reducible rfl)
 try simp only [Act.put, List.setIfInBounds_toArray, List.set_cons_zero, List.set_cons_succ]
 refine take_h (i := 4) (v := ?_) rfl (by kernel_rfl) (by kernel_rfl) (by kernel_rfl) (fun _ _ _ h => h) (by rfl) ?_ hS1 ?_
 rotate_left
 ·(intro X hX; obtain ⟨y0, y1⟩ := hX; go_simp; try with_reducible rfl)
 try simp only [Act.put, List.setIfInBounds_toArray, List.set_cons_zero, List.set_cons_succ]
 refine take_h (i := 5) (v := ?_) rfl (by kernel_rfl) (by kernel_rfl) (by kernel_rfl) (fun _ _ _ h => h) (by rfl) ?_ hS1 ?_
 rotate_left
 ·(intro X hX; obtain ⟨y0, y1⟩ := hX; go_simp; try with_reducible rfl)
 try simp only [Act.put, List.setIfInBounds_toArray, List.set_cons_zero, List.set_cons_succ]
 refine take_h (i := 6) (v := ?_) rfl (by kernel_rfl) (by kernel_rfl) (by kernel_rfl) (fun _ _ _ h => h) (by rfl) ?_ hS1 ?_
 rotate_left
 ·(intro X hX; obtain ⟨y0, y1⟩ := hX; go_simp; try with_reducible rfl)
 try simp only [Act.put, List.setIfInBounds_toArray, List.set_cons_zero, List.set_cons_succ]
 refine take_h (i := 7) (v := ?_) rfl (by kernel_rfl) (by kernel_rfl) (by kernel_rfl) (fun _ _ _ h => h) (by rfl) ?_ hS1 ?_
 rotate_left
 ·(intro X hX; obtain ⟨y0, y1⟩ := hX; go_simp; try with_reducible rfl)
 try simp only [Act.put, List.setIfInBounds_toArray, List.set_cons_zero, List.set_cons_succ]
 refine take_h (i := 8) (v := ?_) rfl (by kernel_rfl) (by kernel_rfl) (by kernel_rfl) (fun _ _ _ h => h) (by rfl) ?_ hS1 ?_
 rotate_left
 ·(intro X hX; obtain ⟨y0, y1⟩ := hX; go_simp; try with_reducible rfl)
 try simp only [Act.put, List.setIfInBounds_toArray, List.set_cons_zero, List.set_cons_succ]
 refine take_h (i := 9) (v := ?_) rfl (by kernel_rfl) (by kernel_rfl) (by kernel_rfl) (fun _ _ _ h => h) (by rfl) ?_ hS1 ?_
 rotate_left
 ·(intro X hX; obtain ⟨y0, y1⟩ := hX; go_simp; try with_reducible rfl)
 try simp only [Act.put, List.setIfInBounds_toArray, List.set_cons_zero, List.set_cons_succ]
 refine take_h (i := 10) (v := ?_) rfl (by kernel_rfl) (by kernel_rfl) (by kernel_rfl) (fun _ _ _ h => h) (by rfl) ?_ hS1 ?_
 rotate_left
 ·(intro X hX; obtain ⟨y0, y1⟩ := hX; go_simp; try with_reducible rfl)
 try simp only [Act.put, List.setIfInBounds_toArray, List.set_cons_zero, List.set_cons_succ]
 refine take_h (i := 11) (v := ?_) rfl (by kernel_rfl) (by kernel_rfl) (by kernel_rfl) (fun _ _ _ h => h) (by rfl) ?_ hS1 ?_
 rotate_left
 ·(intro X hX; obtain ⟨y0, y1⟩ := hX; go_simp; try with_reducible rfl)
 try simp only [Act.put, List.setIfInBounds_toArray, List.set_cons_zero, List.set_cons_succ]
 refine take_h (i := 12) (v := ?_) rfl (by kernel_rfl) (by kernel_rfl) (by kernel_rfl) (fun _ _ _ h => h) (by rfl) ?_ hS1 ?_
 rotate_left
 ·(intro X hX; obtain ⟨y0, y1⟩ := hX; go_simp; try with_reducible rfl)
 try simp only [Act.put, List.setIfInBounds_toArray, List.set_cons_zero, List.set_cons_succ]
 refine take_h (i := 13) (v := ?_) rfl (by kernel_rfl) (by kernel_rfl) (by kernel_rfl) (fun _ _ _ h => h) (by rfl) ?_ hS1 ?_
 rotate_left
 ·(intro X hX; obtain ⟨y0, y1⟩ := hX; go_simp; try with_reducible rfl)
 try simp only [Act.put, List.setIfInBounds_toArray, List.set_cons_zero, List.set_cons_succ]
 refine step_h (i := 14) rfl (by kernel_rfl) ?_
 intro KK hKK
 go_simp
 have hbx : Below w5.heap.size w5 (w5.drew.alloc (.cells #[.int .i64 (E.length : Int)] 3)) := vonto (Below.refl w5.heap.size w5).drew (valloc_bel (Below.refl _ _) _)
 refine hKK.out _ _ ⟨keepCell hbx v0, keepCell hbx n5⟩ (fun hS3 => ?_)
 clear hKK KK hS1
 refine step_h (i := 15) rfl (by kernel_rfl) ?_
 intro KK hKK
 have hT6 := HT5.out.onto hbx
 have hps := hT6.ps e hem
 rw [HU.out] at hps
 refine step_append_lies _ (by rfl) _ _ _ (by rfl) B 3 i1 (.int .i64 0) 1 8 Tryz.underlying89 hi' hz0' hz1' hz2' rfl (by decide) _ e.d.ps.length _ (by rfl) hps ⟨w5.drew.heap.size, 0, none⟩ 1 1 [.int .i64 (E.length : Int)] (by rfl) rfl (new_cells w5.drew _ 3) (by intro u hu; simp at hu; rcases hu with rfl; rfl) (by decide) (by unfold maxLen; omega) (by omega) hT6.wlo (w5.drew.heap.size + 1) (by simp) ?_
 intro g8 cap8 w9 hown8 hgr8 hat8 hlt8
 have hns9 := hT6.ns.kept hgr8 (own_ne hT6.ns hps (by decide))
 have hd := hT6.add HE2.out E.length (.slice (some ⟨g8, 0, none⟩) (e.d.ps.length + 1) cap8) hown8 (by rw [HU.out]; exact hgr8) (by
  rcases hat8 with h | h
  ·left; rw [HU.out, h]; rfl
  ·right; exact ⟨g8, rfl, by rw [h]; simp⟩)
 have hbx9 := (hgr8.block tb hT6.lt (off_ne (own_off hps hT6.box (by decide)))).trans hT6.box
 have c90 : w9.cell? ⟨tb, 0, none⟩ = some (.slice (some ⟨g9, 0, none⟩) E1.length cap9) := by rw [cell_of_row w9 tb 0 _ _ _ hbx9]; rfl
 have n9 : w9.cell? ⟨g9, a * 6 + 5, none⟩ = some (.slice ou e.d.ps.length cu) := by
  rw [hns9.cellAt (a * 6 + 5) (by omega), flat_at nc 6 (fun _ => rfl) E1 a 5 e HE2.out (by decide), ← HU.out]; rfl
 have f9 : w9.frozen? ⟨g9, a * 6 + 5, none⟩ = false := hns9.frozenAt (a * 6 + 5)
 refine hKK.out _ _ ⟨c90, n9⟩ (fun hS4 => ?_)
 clear hKK KK hS3
 simp only [Act.put, List.setIfInBounds_toArray, List.set_cons_zero, List.set_cons_succ]
 refine take_h (i := 16) (v := ?_) rfl (by kernel_rfl) (by kernel_rfl) (by kernel_rfl) (fun _ _ _ h => h) (by rfl) ?_ hS4 ?_
 rotate_left
 ·(intro X hX; obtain ⟨y0, y1⟩ := hX; go_simp; try with_reducible rfl)
 try simp only [Act.put, List.setIfInBounds_toArray, List.set_cons_zero, List.set_cons_succ]
 refine take_h (i := 17) (v := ?_) rfl (by kernel_rfl) (by kernel_rfl) (by kernel_rfl) (fun _ _ _ h => h) (by rfl) ?_ hS4 ?_
 rotate_left
 ·(intro X hX; obtain ⟨y0, y1⟩ := hX; go_simp; try with_reducible rfl)
 try simp only [Act.put, List.setIfInBounds_toArray, List.set_cons_zero, List.set_cons_succ]
 refine wpAnyH_done (by kernel_rfl) ?_ _
 change Oper.wp _ _ _ _ _ _
 have HT7 := hid hd.1
 have HK7 := hid (HK5.out.trans ((Kp.of (B := B) hbx).trans hd.2))
 have HF7 := hid (show (∀ b, b < w.heap.size → ¬ b = tb → ¬ b = g → ¬ b = m → e.u.ownBlock ≠ some b → (w9.setCell ⟨g9, a * 6 + 5, none⟩ (.slice (some ⟨g8, 0, none⟩) (e.d.ps.length + 1) cap8)).heap[b]? = w.heap[b]? ∧ ¬ b = g9 ∧ ¬ b = g8) ∧ w.heap.size ≤ (w9.setCell ⟨g9, a * 6 + 5, none⟩ (.slice (some ⟨g8, 0, none⟩) (e.d.ps.length + 1) cap8)).heap.size from ⟨fun b hb h1 h2 h3 h4 => by
  have z5 := HZ5.out
  have hxs := hbx.size
  have hns := hgr8.size
  have hb9 : ¬ b = g9 := by rcases HF2.out.2.1 with h | h <;> omega
  have L1 := Nat.lt_of_lt_of_le hb z5
  have L2 := Nat.lt_of_lt_of_le L1 hxs
  have L3 := Nat.lt_of_lt_of_le L2 hns
  refine ⟨((set_grownW w9 g9 (a * 6 + 5) _).block b L3 (fun e => hb9 (by injection e))).trans ((hgr8.block b L2 (fun e0 => h4 (by rw [HU.out]; exact e0.symm))).trans ((hbx.block b L1).trans (HF5.out b hb h1 h2 h3))), hb9, ?_⟩
  rcases hat8 with h | h
  ·intro e0
   subst e0
   exact h4 (by rw [HU.out]; exact h)
  ·have : w5.drew.heap.size = w5.heap.size := rfl
   rw [h]; omega, by have z5 := HZ5.out; have hxs := hbx.size; have hns := hgr8.size; rw [World.size_setCell]; exact Nat.le_trans (Nat.le_trans z5 hxs) hns⟩)
 clear hd hgr8 hown8 hS4 hT6 hps hbx9 hat8 hlt8 hi' hz0' hz1' hz2' v0 n5 hbx HT5 HK5 hns9
 go_simp
 generalize w9.setCell ⟨g9, a * 6 + 5, none⟩ (.slice (some ⟨g8, 0, none⟩) (e.d.ps.length + 1) cap8) = W3 at *
 clear c90 n9 f9
 go_wp2_with fail
 go_ret
 have h := HT7.out
 have hl := HL1.out
 have hc := HC1.out
 rw [hl] at h hc
 rw [← HE1.out, List.set_append_left _ _ ha] at h
 refine ⟨rfl, ?_⟩
 unfold PartNew
 exact ⟨g9, cap9, .slice (some ⟨g8, 0, none⟩) (e.d.ps.length + 1) cap8, h, hc, HK7.out, HF7.out.2, fun b hb ⟨h1, h2, h3, h4⟩ => by
  obtain ⟨f1, f2, f3⟩ := HF7.out.1 b hb h1 h3 h2 (h4 e (List.mem_of_getElem? HE.out))
  refine ⟨f1, h1, h2, f2, fun e' he' => ?_⟩
  rcases List.mem_append.1 he' with he' | he'
  ·rcases List.mem_or_eq_of_mem_set he' with he' | rfl
   ·exact h4 e' he'
   ·intro e0
    have : g8 = b := by simpa [Value.ownBlock] using e0
    exact f3 this.symm
  ·rw [List.mem_singleton.1 he']
   intro e0; cases e0⟩
set_option maxRecDepth 100000 in
set_option maxHeartbeats 4000000 in
theorem part_newK (B : Nat) (w : World) (tb m g c : Nat) (E : List NE) (M : Ways) (h : TM B w tb m (.slice (some ⟨g, 0, none⟩) E.length c) E M) (a : Nat) (e : NE) (he : E[a]? = some e) (s : PStep) (lf : Nat) (hs : OkS s) (hpl : s.place = false) (hno : s.at_ = 0) (hl : E.length ≤ 10000000) (_hc : E.length ≤ c) (hM : M.length ≤ 10000000) (hp : e.d.ps.length ≤ 10000000) (_hlf : lf ≤ 10000000) (hf : mpF M (a, s) = none) (hgw : ¬ g = w.heap.size) :
  Calls Tryz.prog 92 #[.pointer (some ⟨tb, 0, none⟩), .int .i64 (a : Int), pv s, .int .i64 (lf : Int)] w fun r w' => r = .returned (.int .i64 (E.length : Int)) ∧ PartNew B w tb m g E M a e s lf w' := by
 have ha := lt_of_some he
 have HT := hid h
 have HE := hid he
 have hok : wyO (a, s) := ⟨by show a ≤ _; omega, hs⟩
 have HOK := hid hok
 have HNO := hid hno
 obtain ⟨sk, sa, sp⟩ := s
 simp only at hpl hno
 subst hpl hno
 have HF := hid hf
 have HGW := hid hgw
 have HTL := hid (show ¬ w.heap.size = tb from fun e => by have := HT.out.lt; omega)
 clear h he hs hok hf hgw
 unfold pv
 go_enter Tryz.func92, Tryz.ntmps92
 go_upto_region 4 with fail
 refine cewp_gen ?_
 intro W hW
 have hbW : Below w.heap.size w W := by
  rw [hW]
  first | exact valloc_bel (Below.refl _ _) _ | exact vset_bel (valloc_bel (Below.refl _ _) _) (Nat.le_refl _)
 have p0 : W.cell? ⟨w.heap.size, 0, none⟩ = some (.string sk) := by rw [hW]; simp
 have p1 : W.cell? ⟨w.heap.size, 1, none⟩ = some (.int .i64 0) := by rw [hW]; simp
 have p2 : W.cell? ⟨w.heap.size, 2, none⟩ = some (.bool false) := by rw [hW]; simp
 have hwW : w.heap.size < W.heap.size := by rw [hW]; simp
 have hTW := HT.out.onto hbW
 obtain ⟨-, q0, -⟩ := hTW.cells
 have HLK : Hid (∀ X : World, Below W.heap.size W X → (Instr.lookup 98 (.map (some m)) (.agg #[.int .i64 (a : Int), .string sk, .int .i64 0, .bool false]) true).run Tryz.prog X = .ok (.tuple #[.int .i64 (0), .bool false]) X) := hid (fun X hX => by
  have := mp_look wy_kr (hTW.onto hX).mp hTW.mo 98 (by kernel_rfl) (a, ⟨sk, 0, false⟩) HOK.out
  rw [HF.out] at this
  exact this)
 have HBW0 := hid hbW
 have HTW := hid hTW
 have HK := hid (Kp.of (B := B) hbW)
 have hS0 : Below W.heap.size W W.drew := (Below.refl _ _).drew
 clear hW hbW hTW HT HF
 refine wp_region_h (S := fun X => Below W.heap.size W X) 13 (by kernel_rfl) (by kernel_rfl) ?_
 refine take_h (i := 0) (v := ?_) rfl (by kernel_rfl) (by kernel_rfl) (by kernel_rfl) (fun _ _ _ h => h) (by rfl) ?_ hS0 ?_
 rotate_left
 ·(intro X hX; have y0 := keepCell hX q0; have y1 := keepCell hX p0; have y2 := keepCell hX p1; have y3 := keepCell hX p2; have yl := HLK.out X hX; go_simp; try with_reducible rfl)
 try simp only [Act.put, List.setIfInBounds_toArray, List.set_cons_zero, List.set_cons_succ]
 refine take_h (i := 1) (v := ?_) rfl (by kernel_rfl) (by kernel_rfl) (by kernel_rfl) (fun _ _ _ h => h) (by rfl) ?_ hS0 ?_
 rotate_left
 ·(intro X hX; have y0 := keepCell hX q0; have y1 := keepCell hX p0; have y2 := keepCell hX p1; have y3 := keepCell hX p2; have yl := HLK.out X hX; go_simp; try with_reducible rfl)
 try simp only [Act.put, List.setIfInBounds_toArray, List.set_cons_zero, List.set_cons_succ]
 refine take_h (i := 2) (v := ?_) rfl (by kernel_rfl) (by kernel_rfl) (by kernel_rfl) (fun _ _ _ h => h) (by rfl) ?_ hS0 ?_
 rotate_left
 ·(intro X hX; have y0 := keepCell hX q0; have y1 := keepCell hX p0; have y2 := keepCell hX p1; have y3 := keepCell hX p2; have yl := HLK.out X hX; go_simp; try with_reducible rfl)
 try simp only [Act.put, List.setIfInBounds_toArray, List.set_cons_zero, List.set_cons_succ]
 refine take_h (i := 3) (v := ?_) rfl (by kernel_rfl) (by kernel_rfl) (by kernel_rfl) (fun _ _ _ h => h) (by rfl) ?_ hS0 ?_
 rotate_left
 ·(intro X hX; have y0 := keepCell hX q0; have y1 := keepCell hX p0; have y2 := keepCell hX p1; have y3 := keepCell hX p2; have yl := HLK.out X hX; go_simp; try with_reducible rfl)
 try simp only [Act.put, List.setIfInBounds_toArray, List.set_cons_zero, List.set_cons_succ]
 refine take_h (i := 4) (v := ?_) rfl (by kernel_rfl) (by kernel_rfl) (by kernel_rfl) (fun _ _ _ h => h) (by rfl) ?_ hS0 ?_
 rotate_left
 ·(intro X hX; have y0 := keepCell hX q0; have y1 := keepCell hX p0; have y2 := keepCell hX p1; have y3 := keepCell hX p2; have yl := HLK.out X hX; go_simp; try with_reducible rfl)
 try simp only [Act.put, List.setIfInBounds_toArray, List.set_cons_zero, List.set_cons_succ]
 refine take_h (i := 5) (v := ?_) rfl (by kernel_rfl) (by kernel_rfl) (by kernel_rfl) (fun _ _ _ h => h) (by rfl) ?_ hS0 ?_
 rotate_left
 ·(intro X hX; have y0 := keepCell hX q0; have y1 := keepCell hX p0; have y2 := keepCell hX p1; have y3 := keepCell hX p2; have yl := HLK.out X hX; go_simp; try with_reducible rfl)
 try simp only [Act.put, List.setIfInBounds_toArray, List.set_cons_zero, List.set_cons_succ]
 refine take_h (i := 6) (v := ?_) rfl (by kernel_rfl) (by kernel_rfl) (by kernel_rfl) (fun _ _ _ h => h) (by rfl) ?_ hS0 ?_
 rotate_left
 ·(intro X hX; have y0 := keepCell hX q0; have y1 := keepCell hX p0; have y2 := keepCell hX p1; have y3 := keepCell hX p2; have yl := HLK.out X hX; go_simp; try with_reducible rfl)
 try simp only [Act.put, List.setIfInBounds_toArray, List.set_cons_zero, List.set_cons_succ]
 refine take_h (i := 7) (v := ?_) rfl (by kernel_rfl) (by kernel_rfl) (by kernel_rfl) (fun _ _ _ h => h) (by rfl) ?_ hS0 ?_
 rotate_left
 ·(intro X hX; have y0 := keepCell hX q0; have y1 := keepCell hX p0; have y2 := keepCell hX p1; have y3 := keepCell hX p2; have yl := HLK.out X hX; go_simp; try with_reducible rfl)
 try simp only [Act.put, List.setIfInBounds_toArray, List.set_cons_zero, List.set_cons_succ]
 refine take_h (i := 8) (v := ?_) rfl (by kernel_rfl) (by kernel_rfl) (by kernel_rfl) (fun _ _ _ h => h) (by rfl) ?_ hS0 ?_
 rotate_left
 ·(intro X hX; have y0 := keepCell hX q0; have y1 := keepCell hX p0; have y2 := keepCell hX p1; have y3 := keepCell hX p2; have yl := HLK.out X hX; go_simp; try with_reducible rfl)
 try simp only [Act.put, List.setIfInBounds_toArray, List.set_cons_zero, List.set_cons_succ]
 refine take_h (i := 9) (v := ?_) rfl (by kernel_rfl) (by kernel_rfl) (by kernel_rfl) (fun _ _ _ h => h) (by rfl) ?_ hS0 ?_
 rotate_left
 ·(intro X hX; have y0 := keepCell hX q0; have y1 := keepCell hX p0; have y2 := keepCell hX p1; have y3 := keepCell hX p2; have yl := HLK.out X hX; go_simp; try with_reducible rfl)
 try simp only [Act.put, List.setIfInBounds_toArray, List.set_cons_zero, List.set_cons_succ]
 refine take_h (i := 10) (v := ?_) rfl (by kernel_rfl) (by kernel_rfl) (by kernel_rfl) (fun _ _ _ h => h) (by rfl) ?_ hS0 ?_
 rotate_left
 ·(intro X hX; have y0 := keepCell hX q0; have y1 := keepCell hX p0; have y2 := keepCell hX p1; have y3 := keepCell hX p2; have yl := HLK.out X hX; go_simp; try with_reducible rfl)
 try simp only [Act.put, List.setIfInBounds_toArray, List.set_cons_zero, List.set_cons_succ]
 refine take_h (i := 11) (v := ?_) rfl (by kernel_rfl) (by kernel_rfl) (by kernel_rfl) (fun _ _ _ h => h) (by rfl) ?_ hS0 ?_
 rotate_left
 ·(intro X hX; have y0 := keepCell hX q0; have y1 := keepCell hX p0; have y2 := keepCell hX p1; have y3 := keepCell hX p2; have yl := HLK.out X hX; go_simp; try with_reducible rfl)
 try simp only [Act.put, List.setIfInBounds_toArray, List.set_cons_zero, List.set_cons_succ]
 refine take_h (i := 12) (v := ?_) rfl (by kernel_rfl) (by kernel_rfl) (by kernel_rfl) (fun _ _ _ h => h) (by rfl) ?_ hS0 ?_
 rotate_left
 ·(intro X hX; have y0 := keepCell hX q0; have y1 := keepCell hX p0; have y2 := keepCell hX p1; have y3 := keepCell hX p2; have yl := HLK.out X hX; go_simp; try with_reducible rfl)
 try simp only [Act.put, List.setIfInBounds_toArray, List.set_cons_zero, List.set_cons_succ]
 refine wpAnyH_done (by kernel_rfl) ?_ _
 have HT1 := hid (HTW.out.onto hS0)
 have HK1 := hid (HK.out.trans (Kp.of (B := B) hS0))
 have HBO := hid (vonto HBW0.out hS0)
 have p0 := keepCell hS0 p0
 have p1 := keepCell hS0 p1
 have p2 := keepCell hS0 p2
 have hz1 : w.heap.size < W.drew.heap.size := hwW
 obtain ⟨v0, -, -⟩ := HT1.out.cells
 clear HLK q0 HTW HK hS0
 generalize W.drew = W1 at *
 go_wp2_with fail
 have hS0 : Below W1.heap.size W1 W1.drew := (Below.refl _ _).drew
 obtain ⟨i1, hi', hz0', hz1', hz2'⟩ := info_parts Tryz.infoNode
 have hvb : ∀ k, (Value.slice (some ⟨g, 0, none⟩) E.length c).ownBlock = some k → k < W1.heap.size := fun k hk => (HT1.out.ns.lt k hk).2
 refine wp_region_ends2 (S := fun X => X.cell? ⟨tb, 0, none⟩ = some (.slice (some ⟨g, 0, none⟩) E.length c) ∧ X.cell? ⟨w.heap.size, 0, none⟩ = some (.string sk) ∧ X.cell? ⟨w.heap.size, 1, none⟩ = some (.int .i64 0) ∧ X.cell? ⟨w.heap.size, 2, none⟩ = some (.bool false)) (by simp) (by kernel_rfl) (by kernel_rfl) (by kernel_rfl) (by kernel_rfl) (by kernel_rfl) (by kernel_rfl) ?_
 simp only [List.dropLast, List.getLast_cons_cons, List.getLast_singleton, List.length_cons, List.length_nil]
 have hS1 : W1.drew.cell? ⟨tb, 0, none⟩ = some (.slice (some ⟨g, 0, none⟩) E.length c) ∧ W1.drew.cell? ⟨w.heap.size, 0, none⟩ = some (.string sk) ∧ W1.drew.cell? ⟨w.heap.size, 1, none⟩ = some (.int .i64 0) ∧ W1.drew.cell? ⟨w.heap.size, 2, none⟩ = some (.bool false) := ⟨v0, p0, p1, p2⟩
 refine take_h (i := 0) (v := ?_) rfl (by kernel_rfl) (by kernel_rfl) (by kernel_rfl) (fun _ _ _ h => h) (by rfl) ?_ hS1 ?_
 rotate_left
 ·(intro X hX; obtain ⟨y0, y1, y2, y3⟩ := hX; go_simp; try with_reducible rfl)
 try simp only [Act.put, List.setIfInBounds_toArray, List.set_cons_zero, List.set_cons_succ]
 refine take_h (i := 1) (v := ?_) rfl (by kernel_rfl) (by kernel_rfl) (by kernel_rfl) (fun _ _ _ h => h) (by rfl) ?_ hS1 ?_
 rotate_left
 ·(intro X hX; obtain ⟨y0, y1, y2, y3⟩ := hX; go_simp; try with_reducible rfl)
 try simp only [Act.put, List.setIfInBounds_toArray, List.set_cons_zero, List.set_cons_succ]
 refine take_h (i := 2) (v := ?_) rfl (by kernel_rfl) (by kernel_rfl) (by kernel_rfl) (fun _ _ _ h => h) (by rfl) ?_ hS1 ?_
 rotate_left
 ·(intro X hX; obtain ⟨y0, y1, y2, y3⟩ := hX; go_simp; try with_reducible rfl)
 try simp only [Act.put, List.setIfInBounds_toArray, List.set_cons_zero, List.set_cons_succ]
 refine take_h (i := 3) (v := ?_) rfl (by kernel_rfl) (by kernel_rfl) (by kernel_rfl) (fun _ _ _ h => h) (by rfl) ?_ hS1 ?_
 rotate_left
 ·(intro X hX; obtain ⟨y0, y1, y2, y3⟩ := hX; go_simp; try with_reducible rfl)
 try simp only [Act.put, List.setIfInBounds_toArray, List.set_cons_zero, List.set_cons_succ]
 refine take_h (i := 4) (v := ?_) rfl (by kernel_rfl) (by kernel_rfl) (by kernel_rfl) (fun _ _ _ h => h) (by rfl) ?_ hS1 ?_
 rotate_left
 ·(intro X hX; obtain ⟨y0, y1, y2, y3⟩ := hX; go_simp; try with_reducible rfl)
 try simp only [Act.put, List.setIfInBounds_toArray, List.set_cons_zero, List.set_cons_succ]
 refine take_h (i := 5) (v := ?_) rfl (by kernel_rfl) (by kernel_rfl) (by kernel_rfl) (fun _ _ _ h => h) (by rfl) ?_ hS1 ?_
 rotate_left
 ·(intro X hX; obtain ⟨y0, y1, y2, y3⟩ := hX; go_simp; try with_reducible rfl)
 try simp only [Act.put, List.setIfInBounds_toArray, List.set_cons_zero, List.set_cons_succ]
 refine take_h (i := 6) (v := ?_) rfl (by kernel_rfl) (by kernel_rfl) (by kernel_rfl) (fun _ _ _ h => h) (by rfl) ?_ hS1 ?_
 rotate_left
 ·(intro X hX; obtain ⟨y0, y1, y2, y3⟩ := hX; go_simp; try with_reducible rfl)
 try simp only [Act.put, List.setIfInBounds_toArray, List.set_cons_zero, List.set_cons_succ]
 refine take_h (i := 7) (v := ?_) rfl (by kernel_rfl) (by kernel_rfl) (by kernel_rfl) (fun _ _ _ h => h) (by rfl) ?_ hS1 ?_
 rotate_left
 ·(intro X hX; obtain ⟨y0, y1, y2, y3⟩ := hX; go_simp; try with_reducible rfl)
 try simp only [Act.put, List.setIfInBounds_toArray, List.set_cons_zero, List.set_cons_succ]
 refine step_h (i := 8) rfl (by kernel_rfl) ?_
 intro KK hKK
 go_simp
 have hbx : Below W1.heap.size W1 (W1.drew.alloc (.cells #[.int .i64 0, .string sk, .int .i64 0, .bool false, .int .i64 (lf : Int), .slice none 0 0] 152)) := vonto hS0 (valloc_bel (Below.refl _ _) _)
 refine hKK.out _ _ ⟨keepCell hbx v0, keepCell hbx p0, keepCell hbx p1, keepCell hbx p2⟩ (fun hS3 => ?_)
 clear hKK KK hS1
 refine step_h (i := 9) rfl (by kernel_rfl) ?_
 intro KK hKK
 have hT2 := HT1.out.onto hbx
 refine step_append_lies _ (by rfl) _ _ _ (by rfl) B 152 i1 (.agg #[.int .i64 0, .string ⟨#[]⟩, .int .i64 0, .bool false, .int .i64 0, .slice none 0 0]) 6 72 Tryz.underlying97 hi' hz0' hz1' hz2' rfl (by decide) _ E.length _ (by rfl) hT2.ns ⟨W1.drew.heap.size, 0, none⟩ 1 1 [.int .i64 0, .string sk, .int .i64 0, .bool false, .int .i64 (lf : Int), .slice none 0 0] (by rfl) rfl (new_cells W1.drew _ 152) (by intro u hu; simp at hu; rcases hu with rfl | rfl | rfl | rfl | rfl | rfl <;> rfl) (by decide) (by unfold maxLen; omega) (by omega) hT2.wlo (W1.drew.heap.size + 1) (by simp) ?_
 intro g9 cap9 w9 hown9 hgr9 hat9 hlt9
 have hd := hT2.more ⟨0, ⟨sk, 0, false⟩, lf, []⟩ rfl hown9 hgr9
 have hbx9 := (hgr9.block tb hT2.lt (off_ne (own_off hT2.ns hT2.box (by decide)))).trans hT2.box
 have c90 : w9.cell? ⟨tb, 0, none⟩ = some (.slice (some ⟨g, 0, none⟩) E.length c) := by rw [cell_of_row w9 tb 0 _ _ _ hbx9]; rfl
 have hf9 : w9.frozen? ⟨tb, 0, none⟩ = false := by simp [World.frozen?, hbx9]
 have hsz9 := hgr9.size
 have hxs := hbx.size
 have kp9 : ∀ (o : Nat) (u : Value), W1.cell? ⟨w.heap.size, o, none⟩ = some u → w9.cell? ⟨w.heap.size, o, none⟩ = some u := fun o u h => by
  rw [World.cell?_of_block (hgr9.block w.heap.size (Nat.lt_of_lt_of_le hz1 hxs) (fun e => by
   have h1 : w.heap.size = g := by simpa [Value.ownBlock] using e
   have h2 := HGW.out
   omega))]
  exact keepCell hbx h
 refine hKK.out _ _ ⟨c90, kp9 _ _ p0, kp9 _ _ p1, kp9 _ _ p2⟩ (fun hS4 => ?_)
 clear hKK KK hS3
 simp only [Act.put, List.setIfInBounds_toArray, List.set_cons_zero, List.set_cons_succ]
 refine take_h (i := 10) (v := ?_) rfl (by kernel_rfl) (by kernel_rfl) (by kernel_rfl) (fun _ _ _ h => h) (by rfl) ?_ hS4 ?_
 rotate_left
 ·(intro X hX; obtain ⟨y0, y1, y2, y3⟩ := hX; go_simp; try with_reducible rfl)
 try simp only [Act.put, List.setIfInBounds_toArray, List.set_cons_zero, List.set_cons_succ]
 refine take_h (i := 11) (v := ?_) rfl (by kernel_rfl) (by kernel_rfl) (by kernel_rfl) (fun _ _ _ h => h) (by rfl) ?_ hS4 ?_
 rotate_left
 ·(intro X hX; obtain ⟨y0, y1, y2, y3⟩ := hX; go_simp; try with_reducible rfl)
 try simp only [Act.put, List.setIfInBounds_toArray, List.set_cons_zero, List.set_cons_succ]
 refine wpAnyH_done (by kernel_rfl) ?_ _
 change Oper.wp _ _ _ _ _ _
 have p0 := kp9 _ _ p0
 have p1 := kp9 _ _ p1
 have p2 := kp9 _ _ p2
 have HT3 := hid hd.1
 have HK3 := hid (HK1.out.trans ((Kp.of (B := B) hbx).trans hd.2))
 have hne : ¬ w.heap.size = tb := HTL.out
 replace p0 : (w9.setCell ⟨tb, 0, none⟩ (.slice (some ⟨g9, 0, none⟩) (E.length + 1) cap9)).cell? ⟨w.heap.size, 0, none⟩ = some (.string sk) := by rw [set_other _ _ _ _ _ _ (.inl (fun e => hne e.symm))]; exact p0
 replace p1 : (w9.setCell ⟨tb, 0, none⟩ (.slice (some ⟨g9, 0, none⟩) (E.length + 1) cap9)).cell? ⟨w.heap.size, 1, none⟩ = some (.int .i64 0) := by rw [set_other _ _ _ _ _ _ (.inl (fun e => hne e.symm))]; exact p1
 replace p2 : (w9.setCell ⟨tb, 0, none⟩ (.slice (some ⟨g9, 0, none⟩) (E.length + 1) cap9)).cell? ⟨w.heap.size, 2, none⟩ = some (.bool false) := by rw [set_other _ _ _ _ _ _ (.inl (fun e => hne e.symm))]; exact p2
 have HF2 := hid (show (∀ b, b < w.heap.size → ¬ b = tb → ¬ b = g → (w9.setCell ⟨tb, 0, none⟩ (.slice (some ⟨g9, 0, none⟩) (E.length + 1) cap9)).heap[b]? = w.heap[b]?) ∧ (g9 = g ∨ w.heap.size ≤ g9) ∧ w.heap.size ≤ w9.heap.size from
  ⟨fun b hb h1 h2 => by
   have L1 := Nat.lt_of_lt_of_le hb (Nat.le_trans (Nat.le_of_lt hz1) hxs)
   have L2 := Nat.lt_of_lt_of_le L1 hsz9
   have L3 := Nat.lt_of_lt_of_le hb (Nat.le_of_lt hz1)
   exact ((set_grownW w9 tb 0 _).block b L2 (fun e => h1 (by injection e))).trans ((hgr9.block b L1 (fun e => h2 (by simpa [Value.ownBlock] using e))).trans ((hbx.block b L3).trans (HBO.out.block b hb))), by
   rcases hat9 with h | h
   ·left; exact (show g = g9 by simpa [Value.ownBlock] using h).symm
   ·right; rw [h]; exact Nat.le_trans (Nat.le_of_lt hz1) (Nat.le_succ _), Nat.le_trans (Nat.le_of_lt (Nat.lt_of_lt_of_le hz1 hxs)) hsz9⟩)
 clear hd hgr9 hown9 hS4 hT2 hbx9 hat9 hlt9 hi' hz0' hz1' hz2' v0 kp9 hbx hvb HT1 HK1 hxs
 go_simp
 have HZ2 := hid (show w.heap.size ≤ (w9.setCell ⟨tb, 0, none⟩ (.slice (some ⟨g9, 0, none⟩) (E.length + 1) cap9)).heap.size by simpa using HF2.out.2.2)
 generalize w9.setCell ⟨tb, 0, none⟩ (.slice (some ⟨g9, 0, none⟩) (E.length + 1) cap9) = W2 at *
 have hs2 : w9.heap.size = w9.heap.size := rfl
 clear c90 hf9 hsz9 hS0 hs2
 go_wp2_with fail
 -- the way
 have hS0 : Below W2.heap.size W2 W2.drew := (Below.refl _ _).drew
 have HT4 := hid (HT3.out.onto hS0)
 obtain ⟨-, v1, -⟩ := HT3.out.cells
 obtain ⟨w5, hrun, hm5, hg5⟩ := mp_put wy_kr HT4.out.mp 98 (by kernel_rfl) (a, ⟨sk, 0, false⟩) HOK.out E.length (by omega) (by omega)
 obtain ⟨ht5, hk5⟩ := HT4.out.put _ _ HOK.out hm5 hg5
 have HT5 := hid ht5
 have HK5 := hid (HK3.out.trans ((Kp.of (B := B) hS0).trans hk5))
 have HF5 := hid (show ∀ b, b < w.heap.size → ¬ b = tb → ¬ b = g → ¬ b = m → w5.heap[b]? = w.heap[b]? from fun b hb h1 h2 h3 => (hg5.block b (by have := HZ2.out; have : W2.drew.heap.size = W2.heap.size := rfl; omega) (fun e => h3 (by injection e))).trans (HF2.out.1 b hb h1 h2))
 have HZ5 := hid (show w.heap.size ≤ w5.heap.size from by have := HZ2.out; have h := hg5.size; have : W2.drew.heap.size = W2.heap.size := rfl; omega)
 unfold wyV at hrun
 refine wp_region_ends2 (S := fun X => Below W2.heap.size W2 X) (by simp) (by kernel_rfl) (by kernel_rfl) (by kernel_rfl) (by kernel_rfl) (by kernel_rfl) (by kernel_rfl) ?_
 simp only [List.dropLast, List.getLast_cons_cons, List.getLast_singleton, List.length_cons, List.length_nil]
 refine take_h (i := 0) (v := ?_) rfl (by kernel_rfl) (by kernel_rfl) (by kernel_rfl) (fun _ _ _ h => h) (by rfl) ?_ hS0 ?_
 rotate_left
 ·(intro X hX; have y0 := keepCell hX v1; have y1 := keepCell hX p0; have y2 := keepCell hX p1; have y3 := keepCell hX p2; go_simp; try with_reducible rfl)
 try simp only [Act.put, List.setIfInBounds_toArray, List.set_cons_zero, List.set_cons_succ]
 refine take_h (i := 1) (v := ?_) rfl (by kernel_rfl) (by kernel_rfl) (by kernel_rfl) (fun _ _ _ h => h) (by rfl) ?_ hS0 ?_
 rotate_left
 ·(intro X hX; have y0 := keepCell hX v1; have y1 := keepCell hX p0; have y2 := keepCell hX p1; have y3 := keepCell hX p2; go_simp; try with_reducible rfl)
 try simp only [Act.put, List.setIfInBounds_toArray, List.set_cons_zero, List.set_cons_succ]
 refine take_h (i := 2) (v := ?_) rfl (by kernel_rfl) (by kernel_rfl) (by kernel_rfl) (fun _ _ _ h => h) (by rfl) ?_ hS0 ?_
 rotate_left
 ·(intro X hX; have y0 := keepCell hX v1; have y1 := keepCell hX p0; have y2 := keepCell hX p1; have y3 := keepCell hX p2; go_simp; try with_reducible rfl)
 try simp only [Act.put, List.setIfInBounds_toArray, List.set_cons_zero, List.set_cons_succ]
 refine take_h (i := 3) (v := ?_) rfl (by kernel_rfl) (by kernel_rfl) (by kernel_rfl) (fun _ _ _ h => h) (by rfl) ?_ hS0 ?_
 rotate_left
 ·(intro X hX; have y0 := keepCell hX v1; have y1 := keepCell hX p0; have y2 := keepCell hX p1; have y3 := keepCell hX p2; go_simp; try with_reducible rfl)
 try simp only [Act.put, List.setIfInBounds_toArray, List.set_cons_zero, List.set_cons_succ]
 refine take_h (i := 4) (v := ?_) rfl (by kernel_rfl) (by kernel_rfl) (by kernel_rfl) (fun _ _ _ h => h) (by rfl) ?_ hS0 ?_
 rotate_left
 ·(intro X hX; have y0 := keepCell hX v1; have y1 := keepCell hX p0; have y2 := keepCell hX p1; have y3 := keepCell hX p2; go_simp; try with_reducible rfl)
 try simp only [Act.put, List.setIfInBounds_toArray, List.set_cons_zero, List.set_cons_succ]
 refine take_h (i := 5) (v := ?_) rfl (by kernel_rfl) (by kernel_rfl) (by kernel_rfl) (fun _ _ _ h => h) (by rfl) ?_ hS0 ?_
 rotate_left
 ·(intro X hX; have y0 := keepCell hX v1; have y1 := keepCell hX p0; have y2 := keepCell hX p1; have y3 := keepCell hX p2; go_simp; try with_reducible rfl)
 try simp only [Act.put, List.setIfInBounds_toArray, List.set_cons_zero, List.set_cons_succ]
 refine take_h (i := 6) (v := ?_) rfl (by kernel_rfl) (by kernel_rfl) (by kernel_rfl) (fun _ _ _ h => h) (by rfl) ?_ hS0 ?_
 rotate_left
 ·(intro X hX; have y0 := keepCell hX v1; have y1 := keepCell hX p0; have y2 := keepCell hX p1; have y3 := keepCell hX p2; go_simp; try with_reducible rfl)
 try simp only [Act.put, List.setIfInBounds_toArray, List.set_cons_zero, List.set_cons_succ]
 refine take_h (i := 7) (v := ?_) rfl (by kernel_rfl) (by kernel_rfl) (by kernel_rfl) (fun _ _ _ h => h) (by rfl) ?_ hS0 ?_
 rotate_left
 ·(intro X hX; have y0 := keepCell hX v1; have y1 := keepCell hX p0; have y2 := keepCell hX p1; have y3 := keepCell hX p2; go_simp; try with_reducible rfl)
 try simp only [Act.put, List.setIfInBounds_toArray, List.set_cons_zero, List.set_cons_succ]
 refine wpAnyH_done (by kernel_rfl) ?_ _
 change Oper.wp _ _ _ _ _ _
 go_simp
 clear hS0 HT3 HT4 hm5 hg5 ht5 hk5 hrun v1 p0 p1 p2 HK3
 go_wp2_with fail
 -- the part
 obtain ⟨E1, hE1⟩ : ∃ E1, E ++ [⟨⟨0, ⟨sk, 0, false⟩, lf, []⟩, .slice none 0 0⟩] = E1 := ⟨_, rfl⟩
 have hl1 : E1.length = E.length + 1 := by rw [← hE1]; simp
 rw [hE1, ← hl1] at HT5
 have he1 : E1[a]? = some e := by rw [← hE1, List.getElem?_append_left ha]; exact HE.out
 have HE1 := hid hE1
 have HL1 := hid hl1
 have ha1 : a < E1.length := by omega
 have hc1 : E1.length ≤ cap9 := by
  rcases HT5.out.ns.2 with ⟨e, -⟩ | ⟨_, _, _, e, -, -, h1, -⟩
  ·cases e
  ·injection e with _ _ e; rw [e]; exact h1
 have hem := List.mem_of_getElem? he1
 obtain ⟨v0, -, -⟩ := HT5.out.cells
 obtain ⟨ou, cu, hu⟩ := HT5.out.parts hem
 have n5 := HT5.out.at_ he1 5 _ rfl
 rw [hu] at n5
 have HU := hid hu
 have HE2 := hid he1
 have HC1 := hid hc1
 obtain ⟨i1, hi', hz0', hz1', hz2'⟩ := info_parts Tryz.infoInt1
 clear hl1 hE1 hc1 hu he1
 refine wp_region_ends2 (S := fun X => X.cell? ⟨tb, 0, none⟩ = some (.slice (some ⟨g9, 0, none⟩) E1.length cap9) ∧ X.cell? ⟨g9, a * 6 + 5, none⟩ = some (.slice ou e.d.ps.length cu)) (by simp) (by kernel_rfl) (by kernel_rfl) (by kernel_rfl) (by kernel_rfl) (by kernel_rfl) (by kernel_rfl) ?_
 simp only [List.dropLast, List.getLast_cons_cons, List.getLast_singleton, List.length_cons, List.length_nil]
 have hS1 : w5.drew.cell? ⟨tb, 0, none⟩ = some (.slice (some ⟨g9, 0, none⟩) E1.length cap9) ∧ w5.drew.cell? ⟨g9, a * 6 + 5, none⟩ = some (.slice ou e.d.ps.length cu) := ⟨v0, n5⟩
 refine take_h (i := 0) (v := ?_) rfl (by kernel_rfl) (by kernel_rfl) (by kernel_rfl) (fun _ _ _ h => h) (by rfl) ?_ hS1 ?_
 rotate_left
 ·(intro X hX; obtain ⟨y0, y1⟩ := hX; go_simp; try with_reducible rfl)
 try simp only [Act.put, List.setIfInBounds_toArray, List.set_cons_zero, List.set_cons_succ]
 refine take_h (i := 1) (v := ?_) rfl (by kernel_rfl) (by kernel_rfl) (by kernel_rfl) (fun _ _ _ h => h) (by rfl) ?_ hS1 ?_
 rotate_left
 ·(intro X hX; obtain ⟨y0, y1⟩ := hX; go_simp; try with_reducible rfl)
 try simp only [Act.put, List.setIfInBounds_toArray, List.set_cons_zero, List.set_cons_succ]
 refine take_h (i := 2) (v := ?_) rfl (by kernel_rfl) (by kernel_rfl) (by kernel_rfl) (fun _ _ _ h => h) (by rfl) ?_ hS1 ?_
 rotate_left
 ·(intro X hX; obtain ⟨y0, y1⟩ := hX; go_simp; try with_reducible rfl)
 try simp only [Act.put, List.setIfInBounds_toArray, List.set_cons_zero, List.set_cons_succ]
 refine take_h (i := 3) (v := ?_) rfl (by kernel_rfl) (by kernel_rfl) (by kernel_rfl) (fun _ _ _ h => h) (by rfl) ?_ hS1 ?_
 rotate_left
 ·(intro X hX; obtain ⟨y0, y1⟩ := hX; go_simp; try with_reducible rfl)
 try simp only [Act.put, List.setIfInBounds_toArray, List.set_cons_zero, List.set_cons_succ]
 refine take_h (i := 4) (v := ?_) rfl (by kernel_rfl) (by kernel_rfl) (by kernel_rfl) (fun _ _ _ h => h) (by rfl) ?_ hS1 ?_
 rotate_left
 ·(intro X hX; obtain ⟨y0, y1⟩ := hX; go_simp; try with_reducible rfl)
 try simp only [Act.put, List.setIfInBounds_toArray, List.set_cons_zero, List.set_cons_succ]
 refine take_h (i := 5) (v := ?_) rfl (by kernel_rfl) (by kernel_rfl) (by kernel_rfl) (fun _ _ _ h => h) (by rfl) ?_ hS1 ?_
 rotate_left
 ·(intro X hX; obtain ⟨y0, y1⟩ := hX; go_simp; try with_reducible rfl)
 try simp only [Act.put, List.setIfInBounds_toArray, List.set_cons_zero, List.set_cons_succ]
 refine take_h (i := 6) (v := ?_) rfl (by kernel_rfl) (by kernel_rfl) (by kernel_rfl) (fun _ _ _ h => h) (by rfl) ?_ hS1 ?_
 rotate_left
 ·(intro X hX; obtain ⟨y0, y1⟩ := hX; go_simp; try with_reducible rfl)
 try simp only [Act.put, List.setIfInBounds_toArray, List.set_cons_zero, List.set_cons_succ]
 refine take_h (i := 7) (v := ?_) rfl (by kernel_rfl) (by kernel_rfl) (by kernel_rfl) (fun _ _ _ h => h) (by rfl) ?_ hS1 ?_
 rotate_left
 ·(intro X hX; obtain ⟨y0, y1⟩ := hX; go_simp; try with_reducible rfl)
 try simp only [Act.put, List.setIfInBounds_toArray, List.set_cons_zero, List.set_cons_succ]
 refine take_h (i := 8) (v := ?_) rfl (by kernel_rfl) (by kernel_rfl) (by kernel_rfl) (fun _ _ _ h => h) (by rfl) ?_ hS1 ?_
 rotate_left
 ·(intro X hX; obtain ⟨y0, y1⟩ := hX; go_simp; try with_reducible rfl)
 try simp only [Act.put, List.setIfInBounds_toArray, List.set_cons_zero, List.set_cons_succ]
 refine take_h (i := 9) (v := ?_) rfl (by kernel_rfl) (by kernel_rfl) (by kernel_rfl) (fun _ _ _ h => h) (by rfl) ?_ hS1 ?_
 rotate_left
 ·(intro X hX; obtain ⟨y0, y1⟩ := hX; go_simp; try with_reducible rfl)
 try simp only [Act.put, List.setIfInBounds_toArray, List.set_cons_zero, List.set_cons_succ]
 refine take_h (i := 10) (v := ?_) rfl (by kernel_rfl) (by kernel_rfl) (by kernel_rfl) (fun _ _ _ h => h) (by rfl) ?_ hS1 ?_
 rotate_left
 ·(intro X hX; obtain ⟨y0, y1⟩ := hX; go_simp; try with_reducible rfl)
 try simp only [Act.put, List.setIfInBounds_toArray, List.set_cons_zero, List.set_cons_succ]
 refine take_h (i := 11) (v := ?_) rfl (by kernel_rfl) (by kernel_rfl) (by kernel_rfl) (fun _ _ _ h => h) (by rfl) ?_ hS1 ?_
 rotate_left
 ·(intro X hX; obtain ⟨y0, y1⟩ := hX; go_simp; try with_reducible rfl)
 try simp only [Act.put, List.setIfInBounds_toArray, List.set_cons_zero, List.set_cons_succ]
 refine take_h (i := 12) (v := ?_) rfl (by kernel_rfl) (by kernel_rfl) (by kernel_rfl) (fun _ _ _ h => h) (by rfl) ?_ hS1 ?_
 rotate_left
 ·(intro X hX; obtain ⟨y0, y1⟩ := hX; go_simp; try with_reducible rfl)
 try simp only [Act.put, List.setIfInBounds_toArray, List.set_cons_zero, List.set_cons_succ]
 refine take_h (i := 13) (v := ?_) rfl (by kernel_rfl) (by kernel_rfl) (by kernel_rfl) (fun _ _ _ h => h) (by rfl) ?_ hS1 ?_
 rotate_left
 ·(intro X hX; obtain ⟨y0, y1⟩ := hX; go_simp; try with_reducible rfl)
 try simp only [Act.put, List.setIfInBounds_toArray, List.set_cons_zero, List.set_cons_succ]
 refine step_h (i := 14) rfl (by kernel_rfl) ?_
 intro KK hKK
 go_simp
 have hbx : Below w5.heap.size w5 (w5.drew.alloc (.cells #[.int .i64 (E.length : Int)] 3)) := vonto (Below.refl w5.heap.size w5).drew (valloc_bel (Below.refl _ _) _)
 refine hKK.out _ _ ⟨keepCell hbx v0, keepCell hbx n5⟩ (fun hS3 => ?_)
 clear hKK KK hS1
 refine step_h (i := 15) rfl (by kernel_rfl) ?_
 intro KK hKK
 have hT6 := HT5.out.onto hbx
 have hps := hT6.ps e hem
 rw [HU.out] at hps
 refine step_append_lies _ (by rfl) _ _ _ (by rfl) B 3 i1 (.int .i64 0) 1 8 Tryz.underlying89 hi' hz0' hz1' hz2' rfl (by decide) _ e.d.ps.length _ (by rfl) hps ⟨w5.drew.heap.size, 0, none⟩ 1 1 [.int .i64 (E.length : Int)] (by rfl) rfl (new_cells w5.drew _ 3) (by intro u hu; simp at hu; rcases hu with rfl; rfl) (by decide) (by unfold maxLen; omega) (by omega) hT6.wlo (w5.drew.heap.size + 1) (by simp) ?_
 intro g8 cap8 w9 hown8 hgr8 hat8 hlt8
 have hns9 := hT6.ns.kept hgr8 (own_ne hT6.ns hps (by decide))
 have hd := hT6.add HE2.out E.length (.slice (some ⟨g8, 0, none⟩) (e.d.ps.length + 1) cap8) hown8 (by rw [HU.out]; exact hgr8) (by
  rcases hat8 with h | h
  ·left; rw [HU.out, h]; rfl
  ·right; exact ⟨g8, rfl, by rw [h]; simp⟩)
 have hbx9 := (hgr8.block tb hT6.lt (off_ne (own_off hps hT6.box (by decide)))).trans hT6.box
 have c90 : w9.cell? ⟨tb, 0, none⟩ = some (.slice (some ⟨g9, 0, none⟩) E1.length cap9) := by rw [cell_of_row w9 tb 0 _ _ _ hbx9]; rfl
 have n9 : w9.cell? ⟨g9, a * 6 + 5, none⟩ = some (.slice ou e.d.ps.length cu) := by
  rw [hns9.cellAt (a * 6 + 5) (by omega), flat_at nc 6 (fun _ => rfl) E1 a 5 e HE2.out (by decide), ← HU.out]; rfl
 have f9 : w9.frozen? ⟨g9, a * 6 + 5, none⟩ = false := hns9.frozenAt (a * 6 + 5)
 refine hKK.out _ _ ⟨c90, n9⟩ (fun hS4 => ?_)
 clear hKK KK hS3
 simp only [Act.put, List.setIfInBounds_toArray, List.set_cons_zero, List.set_cons_succ]
 refine take_h (i := 16) (v := ?_) rfl (by kernel_rfl) (by kernel_rfl) (by kernel_rfl) (fun _ _ _ h => h) (by rfl) ?_ hS4 ?_
 rotate_left
 ·(intro X hX; obtain ⟨y0, y1⟩ := hX; go_simp; try with_reducible rfl)
 try simp only [Act.put, List.setIfInBounds_toArray, List.set_cons_zero, List.set_cons_succ]
 refine take_h (i := 17) (v := ?_) rfl (by kernel_rfl) (by kernel_rfl) (by kernel_rfl) (fun _ _ _ h => h) (by rfl) ?_ hS4 ?_
 rotate_left
 ·(intro X hX; obtain ⟨y0, y1⟩ := hX; go_simp; try with_reducible rfl)
 try simp only [Act.put, List.setIfInBounds_toArray, List.set_cons_zero, List.set_cons_succ]
 refine wpAnyH_done (by kernel_rfl) ?_ _
 change Oper.wp _ _ _ _ _ _
 have HT7 := hid hd.1
 have HK7 := hid (HK5.out.trans ((Kp.of (B := B) hbx).trans hd.2))
 have HF7 := hid (show (∀ b, b < w.heap.size → ¬ b = tb → ¬ b = g → ¬ b = m → e.u.ownBlock ≠ some b → (w9.setCell ⟨g9, a * 6 + 5, none⟩ (.slice (some ⟨g8, 0, none⟩) (e.d.ps.length + 1) cap8)).heap[b]? = w.heap[b]? ∧ ¬ b = g9 ∧ ¬ b = g8) ∧ w.heap.size ≤ (w9.setCell ⟨g9, a * 6 + 5, none⟩ (.slice (some ⟨g8, 0, none⟩) (e.d.ps.length + 1) cap8)).heap.size from ⟨fun b hb h1 h2 h3 h4 => by
  have z5 := HZ5.out
  have hxs := hbx.size
  have hns := hgr8.size
  have hb9 : ¬ b = g9 := by rcases HF2.out.2.1 with h | h <;> omega
  have L1 := Nat.lt_of_lt_of_le hb z5
  have L2 := Nat.lt_of_lt_of_le L1 hxs
  have L3 := Nat.lt_of_lt_of_le L2 hns
  refine ⟨((set_grownW w9 g9 (a * 6 + 5) _).block b L3 (fun e => hb9 (by injection e))).trans ((hgr8.block b L2 (fun e0 => h4 (by rw [HU.out]; exact e0.symm))).trans ((hbx.block b L1).trans (HF5.out b hb h1 h2 h3))), hb9, ?_⟩
  rcases hat8 with h | h
  ·intro e0
   subst e0
   exact h4 (by rw [HU.out]; exact h)
  ·have : w5.drew.heap.size = w5.heap.size := rfl
   rw [h]; omega, by have z5 := HZ5.out; have hxs := hbx.size; have hns := hgr8.size; rw [World.size_setCell]; exact Nat.le_trans (Nat.le_trans z5 hxs) hns⟩)
 clear hd hgr8 hown8 hS4 hT6 hps hbx9 hat8 hlt8 hi' hz0' hz1' hz2' v0 n5 hbx HT5 HK5 hns9
 go_simp
 generalize w9.setCell ⟨g9, a * 6 + 5, none⟩ (.slice (some ⟨g8, 0, none⟩) (e.d.ps.length + 1) cap8) = W3 at *
 clear c90 n9 f9
 go_wp2_with fail
 go_ret
 have h := HT7.out
 have hl := HL1.out
 have hc := HC1.out
 rw [hl] at h hc
 rw [← HE1.out, List.set_append_left _ _ ha] at h
 refine ⟨rfl, ?_⟩
 unfold PartNew
 exact ⟨g9, cap9, .slice (some ⟨g8, 0, none⟩) (e.d.ps.length + 1) cap8, h, hc, HK7.out, HF7.out.2, fun b hb ⟨h1, h2, h3, h4⟩ => by
  obtain ⟨f1, f2, f3⟩ := HF7.out.1 b hb h1 h3 h2 (h4 e (List.mem_of_getElem? HE.out))
  refine ⟨f1, h1, h2, f2, fun e' he' => ?_⟩
  rcases List.mem_append.1 he' with he' | he'
  ·rcases List.mem_or_eq_of_mem_set he' with he' | rfl
   ·exact h4 e' he'
   ·intro e0
    have : g8 = b := by simpa [Value.ownBlock] using e0
    exact f3 this.symm
  ·rw [List.mem_singleton.1 he']
   intro e0; cases e0⟩
end Go.Proofs.YteimbjamnfkapaaGreatDoor
