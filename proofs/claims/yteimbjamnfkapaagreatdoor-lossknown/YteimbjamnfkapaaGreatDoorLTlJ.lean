/- tlex.readInt at each base, readNum, basedDigits: walked. -/
import Derived.Test.YteimbjamnfkapaaGreatDoorLTlH
/- tlex.basedDigits: walked. -/
namespace Go.Proofs.YteimbjamnfkapaaGreatDoor
open Go.RowKit
theorem trint16 (s : ByteArray) (w : World) (hs : s.size ≤ 1000000) (hg : GlobT w) (hd : dgs 16 s.data.toList = true) :
  Calls Tryz.prog 276 #[.string s,.int .i64 16] w fun e w' => e = .returned (.tuple #[vv (intR (psV 16 (clnS s.data.toList))) nilS nilS,.int .i64 (intE (psV 16 (clnS s.data.toList)))]) ∧ Below w.heap.size w w' :=
 trint_of s 16 _ w hs hg.m fun X h => by
  have h1 := cln_le s.data.toList
  rw [size_list] at h1
  have hd2 := hd
  unfold dgs at hd2
  rw [Bool.and_eq_true,decide_eq_true_eq,decide_eq_true_eq] at hd2
  have := tpint16 (mkS (clnS s.data.toList)) X (hg.g.on h) (by rw [mkS_size]; exact cln_ne hd) (by rw [mkS_size]; omega) (by rw [mkS_list]; exact dgs_cln hd2.2)
  rw [mkS_list] at this; exact this
theorem trint8 (s : ByteArray) (w : World) (hs : s.size ≤ 1000000) (hg : GlobT w) (hd : dgs 8 s.data.toList = true) :
  Calls Tryz.prog 276 #[.string s,.int .i64 8] w fun e w' => e = .returned (.tuple #[vv (intR (psV 8 (clnS s.data.toList))) nilS nilS,.int .i64 (intE (psV 8 (clnS s.data.toList)))]) ∧ Below w.heap.size w w' :=
 trint_of s 8 _ w hs hg.m fun X h => by
  have h1 := cln_le s.data.toList
  rw [size_list] at h1
  have hd2 := hd
  unfold dgs at hd2
  rw [Bool.and_eq_true,decide_eq_true_eq,decide_eq_true_eq] at hd2
  have := tpint8 (mkS (clnS s.data.toList)) X (hg.g.on h) (by rw [mkS_size]; exact cln_ne hd) (by rw [mkS_size]; omega) (by rw [mkS_list]; exact dgs_cln hd2.2)
  rw [mkS_list] at this; exact this
theorem trint2 (s : ByteArray) (w : World) (hs : s.size ≤ 1000000) (hg : GlobT w) (hd : dgs 2 s.data.toList = true) :
  Calls Tryz.prog 276 #[.string s,.int .i64 2] w fun e w' => e = .returned (.tuple #[vv (intR (psV 2 (clnS s.data.toList))) nilS nilS,.int .i64 (intE (psV 2 (clnS s.data.toList)))]) ∧ Below w.heap.size w w' :=
 trint_of s 2 _ w hs hg.m fun X h => by
  have h1 := cln_le s.data.toList
  rw [size_list] at h1
  have hd2 := hd
  unfold dgs at hd2
  rw [Bool.and_eq_true,decide_eq_true_eq,decide_eq_true_eq] at hd2
  have := tpint2 (mkS (clnS s.data.toList)) X (hg.g.on h) (by rw [mkS_size]; exact cln_ne hd) (by rw [mkS_size]; omega) (by rw [mkS_list]; exact dgs_cln hd2.2)
  rw [mkS_list] at this; exact this
theorem wp_gen {P : Program} {c : Code} {Q : Exit → Act → World → Prop} {a : Act} {w : World} (h : ∀ W,W = w → Code.wp P c Q a W) : Code.wp P c Q a w := h w rfl
theorem trimplus_any (s : ByteArray) (w : World) :
  Calls Tryz.prog 131 #[.string s,.string ⟨#[43]⟩] w fun e w' => e = .returned (.string (mkS (noP s.data.toList))) ∧ w' = w := by
 have := Tryz.strings_TrimPrefix s ⟨#[43]⟩ w
 rw [show (⟨#[43]⟩ : ByteArray).data.toList = [43] from rfl,tp1] at this
 exact this
def nuR (l : List UInt8) : VT := if numB (noP (clnS l)) then numR (mkS (noP (clnS l))) else zeroT
def nuE (l : List UInt8) : Int := if numB (noP (clnS l)) then 0 else 6
set_option maxRecDepth 100000 in
set_option maxHeartbeats 2000000 in
theorem trnum_any (s : ByteArray) (w : World) (hs : s.size ≤ 1000000) (hg : GlobT w) :
  Calls Tryz.prog 278 #[.string s] w fun e w' => e = .returned (.tuple #[vv (nuR s.data.toList) nilS nilS,.int .i64 (nuE s.data.toList)]) ∧ Below w.heap.size w w' := by
 have CJ := hid (fun X (h : Below w.heap.size w X) => tjoints_any s X hs (hg.m.on h))
 have CT := hid (fun X => trimplus_any (mkS (clnS s.data.toList)) X)
 rw [mkS_list] at CT
 have hnl : (mkS (noP (clnS s.data.toList))).size ≤ maxLen := by
  rw [mkS_size]
  have h1 := cln_le s.data.toList
  rw [size_list] at h1
  have h2 : (noP (clnS s.data.toList)).length ≤ (clnS s.data.toList).length := by
   unfold noP; split
   ·rw [List.length_drop]; omega
   ·omega
  exact max_le (by omega)
 have CN := hid (fun X (h : Below w.heap.size w X) => vnum_any (mkS (noP (clnS s.data.toList))) X (hg.g.on h) hnl)
 have HR : Hid (nuR s.data.toList = (if numB (noP (clnS s.data.toList)) then numR (mkS (noP (clnS s.data.toList))) else zeroT) ∧ nuE s.data.toList = (if numB (noP (clnS s.data.toList)) then 0 else 6)) := ⟨rfl,rfl⟩
 have HE : Hid (numE (mkS (noP (clnS s.data.toList))) = if numB (noP (clnS s.data.toList)) then 0 else 1) := by
  show _ = _
  unfold numE; rw [mkS_list]
 generalize nuR s.data.toList = R at *
 generalize nuE s.data.toList = E at *
 generalize numR (mkS (noP (clnS s.data.toList))) = T at *
 generalize numE (mkS (noP (clnS s.data.toList))) = z at *
 generalize numB (noP (clnS s.data.toList)) = b at *
 generalize mkS (noP (clnS s.data.toList)) = y at *
 generalize mkS (clnS s.data.toList) = x at *
 clear hnl hg
 simp only [vv] at CN
 obtain ⟨tk,htk⟩ : ∃ k,T.kd = k := ⟨_,rfl⟩
 obtain ⟨tn,htn⟩ : ∃ k,T.nm = k := ⟨_,rfl⟩
 obtain ⟨ts,hts⟩ : ∃ k,T.st = k := ⟨_,rfl⟩
 rw [htk,htn,hts] at CN
 have HT := hid (show vv T nilS nilS = .agg #[.int .i64 tk,.int .i64 tn,.string ts,nilS,nilS] by unfold vv; rw [htk,htn,hts])
 clear htk htn hts
 cases b with
 | true =>
  rw [if_pos rfl] at HE
  simp only [if_true] at HR
  rw [HE.out] at CN
  go_enter Tryz.func278,Tryz.ntmps278
  go_wp2_with fail
  go_at_call 300
  refine (CJ.out _ (valloc_bel (Below.refl _ _) _)).mono ?_
  rintro e w1 ⟨rfl,hb1⟩
  have R1 := hid (box_row hb1)
  have HB1 := hid (vonto (valloc_bel (Below.refl w.heap.size w) _) hb1)
  clear hb1
  go_wp2_with (go_at_call 131; go_must (refine (CT.out _).mono ?_; rintro e w2 ⟨rfl,hw⟩; obtain rfl := hw.symm))
  go_at_call 137
  refine (CN.out _ HB1.out).mono ?_
  rintro e w3 ⟨rfl,hb3⟩
  have R3 := hid (R1.out.onto (hb3.block _ R1.out.lt))
  have HB3 := hid (vonto HB1.out hb3)
  clear hb3 R1 HB1
  go_upto_region 2 with fail
  refine wp_gen ?_
  intro W hW
  have R0 : Hid (Row W w.heap.size 29 5) := by rw [hW]; exact R3.out.onto (((Below.refl w3.heap.size w3).alloc (Nat.le_refl _) _).block _ R3.out.lt)
  have HBW : Hid (Below w.heap.size w W) := by rw [hW]; exact valloc_bel HB3.out _
  have hk := new_cells w3 [.int .i64 tk,.int .i64 tn,.string ts,.slice none 0 0,.slice none 0 0] 29
  have b0 : W.cell? ⟨w3.heap.size,0,none⟩ = some (.int .i64 tk) := by rw [hW]; exact (addz _ 0) ▸ hk 0 _ rfl
  have b1 : W.cell? ⟨w3.heap.size,1,none⟩ = some (.int .i64 tn) := by rw [hW]; exact (addz _ 1) ▸ hk 1 _ rfl
  have b2 : W.cell? ⟨w3.heap.size,2,none⟩ = some (.string ts) := by rw [hW]; exact (addz _ 2) ▸ hk 2 _ rfl
  have b3 : W.cell? ⟨w3.heap.size,3,none⟩ = some nilS := by rw [hW]; exact (addz _ 3) ▸ hk 3 _ rfl
  have b4 : W.cell? ⟨w3.heap.size,4,none⟩ = some nilS := by rw [hW]; exact (addz _ 4) ▸ hk 4 _ rfl
  clear hW hk R3 HB3
  obtain ⟨u0,e0⟩ := R0.out.cell (o := 0) (by decide)
  obtain ⟨u1,e1⟩ := R0.out.cell (o := 1) (by decide)
  obtain ⟨u2,e2⟩ := R0.out.cell (o := 2) (by decide)
  obtain ⟨u3,e3⟩ := R0.out.cell (o := 3) (by decide)
  obtain ⟨u4,e4⟩ := R0.out.cell (o := 4) (by decide)
  have z0 := R0.out.frozen
  go_wp2_with fail
  refine bodyPost_ret (v := .tuple #[.agg #[.int .i64 tk,.int .i64 tn,.string ts,nilS,nilS],.int .i64 0]) (by simp [results,Tryz.results278,go_sem,e0,e1,e2,e3,e4]) rfl ⟨by rw [HR.out.1,HR.out.2,HT.out],?_⟩
  repeat (first | exact HBW.out | (refine vset_bel ?_ (by simp)))
 | false =>
  rw [if_neg (by decide)] at HE
  simp only [Bool.false_eq_true,if_false] at HR
  rw [HE.out] at CN
  go_enter Tryz.func278,Tryz.ntmps278
  go_wp2_with fail
  go_at_call 300
  refine (CJ.out _ (valloc_bel (Below.refl _ _) _)).mono ?_
  rintro e w1 ⟨rfl,hb1⟩
  have R1 := hid (box_row hb1)
  have HB1 := hid (vonto (valloc_bel (Below.refl w.heap.size w) _) hb1)
  clear hb1
  go_wp2_with (go_at_call 131; go_must (refine (CT.out _).mono ?_; rintro e w2 ⟨rfl,hw⟩; obtain rfl := hw.symm))
  go_at_call 137
  refine (CN.out _ HB1.out).mono ?_
  rintro e w3 ⟨rfl,hb3⟩
  have R3 := hid (R1.out.onto (hb3.block _ R1.out.lt))
  have HB3 := hid (vonto HB1.out hb3)
  clear hb3 R1 HB1
  go_upto_region 2 with fail
  refine wp_gen ?_
  intro W hW
  have R0 : Hid (Row W w.heap.size 29 5) := by rw [hW]; exact R3.out.onto (((Below.refl w3.heap.size w3).alloc (Nat.le_refl _) _).block _ R3.out.lt)
  have HBW : Hid (Below w.heap.size w W) := by rw [hW]; exact valloc_bel HB3.out _
  have hk := new_cells w3 [.int .i64 tk,.int .i64 tn,.string ts,.slice none 0 0,.slice none 0 0] 29
  have b0 : W.cell? ⟨w3.heap.size,0,none⟩ = some (.int .i64 tk) := by rw [hW]; exact (addz _ 0) ▸ hk 0 _ rfl
  have b1 : W.cell? ⟨w3.heap.size,1,none⟩ = some (.int .i64 tn) := by rw [hW]; exact (addz _ 1) ▸ hk 1 _ rfl
  have b2 : W.cell? ⟨w3.heap.size,2,none⟩ = some (.string ts) := by rw [hW]; exact (addz _ 2) ▸ hk 2 _ rfl
  have b3 : W.cell? ⟨w3.heap.size,3,none⟩ = some nilS := by rw [hW]; exact (addz _ 3) ▸ hk 3 _ rfl
  have b4 : W.cell? ⟨w3.heap.size,4,none⟩ = some nilS := by rw [hW]; exact (addz _ 4) ▸ hk 4 _ rfl
  clear hW hk R3 HB3
  obtain ⟨u0,e0⟩ := R0.out.cell (o := 0) (by decide)
  obtain ⟨u1,e1⟩ := R0.out.cell (o := 1) (by decide)
  obtain ⟨u2,e2⟩ := R0.out.cell (o := 2) (by decide)
  obtain ⟨u3,e3⟩ := R0.out.cell (o := 3) (by decide)
  obtain ⟨u4,e4⟩ := R0.out.cell (o := 4) (by decide)
  have z0 := R0.out.frozen
  go_wp2_with fail
  refine bodyPost_ret (v := .tuple #[vv zeroT nilS nilS,.int .i64 6]) (by simp [results,Tryz.results278,go_sem,vv,zeroT,VT.kd,VT.nm,VT.st,e0,e1,e2,e3,e4]) rfl ⟨by rw [HR.out.1,HR.out.2],?_⟩
  repeat (first | exact HBW.out | (refine vset_bel ?_ (by simp)))
def basC : List Value := [.string ⟨#[48,120]⟩,.string ⟨#[48,49,50,51,52,53,54,55,56,57,97,98,99,100,101,102,65,66,67,68,69,70]⟩,.int .i64 16,.string ⟨#[48,111]⟩,.string ⟨#[48,49,50,51,52,53,54,55]⟩,.int .i64 8,.string ⟨#[48,98]⟩,.string ⟨#[48,49]⟩,.int .i64 2]
def GlobB (w : World) : Prop := ∀ i v,basC[i]? = some v → w.cell? ⟨3,i,none⟩ = some v
theorem GlobB.on {w w' : World} (h : GlobB w) (hb : Below w.heap.size w w') : GlobB w' := fun i v hi => by
 have := h i v hi
 rw [hb.cell (World.block_lt_of_cell? w _ this)]; exact this
theorem in_hex (b : UInt8) : inT (⟨#[48,49,50,51,52,53,54,55,56,57,97,98,99,100,101,102,65,66,67,68,69,70]⟩ : ByteArray).data.toList b = dgB 16 b := byte_eq _ _ (by decide +kernel) b
theorem in_oct (b : UInt8) : inT (⟨#[48,49,50,51,52,53,54,55]⟩ : ByteArray).data.toList b = dgB 8 b := byte_eq _ _ (by decide +kernel) b
theorem in_bin (b : UInt8) : inT (⟨#[48,49]⟩ : ByteArray).data.toList b = dgB 2 b := byte_eq _ _ (by decide +kernel) b
theorem tcut_base (s ds : ByteArray) (base : Nat) (hp : ∀ b,inT ds.data.toList b = dgB base b) (w : World) (hs : s.size ≤ 1000000) :
  Calls Tryz.prog 299 #[.string s,.string ds] w fun e w' => e = .returned (.tuple #[.string (mkS (s.data.toList.take (cdN (dgB base) false s.data.toList))),.string (mkS (s.data.toList.drop (cdN (dgB base) false s.data.toList)))]) ∧ Below w.heap.size w w' := by
 refine (tcut_of s ds (dgB base) hp w hs).mono ?_
 rintro e w' ⟨rfl,n,rfl⟩
 exact ⟨rfl,tdrew_below _ _⟩
theorem tp2 (l : List UInt8) (c d : UInt8) : Lib.trimPrefix l [c,d] = if bt l 0 = c.toNat ∧ bt l 1 = d.toNat then l.drop 2 else l := by
 unfold Lib.trimPrefix; rw [hp2]
 by_cases h : bt l 0 = c.toNat ∧ bt l 1 = d.toNat
 ·rw [decide_eq_true h,if_pos rfl,if_pos h]; rfl
 ·rw [decide_eq_false h,if_neg (by decide),if_neg h]
theorem tcutp2 (s : ByteArray) (c d : UInt8) (w : World) :
  Calls Tryz.prog 139 #[.string s,.string ⟨#[c,d]⟩] w fun e w' => e = .returned (.tuple #[.string (mkS (if bt s.data.toList 0 = c.toNat ∧ bt s.data.toList 1 = d.toNat then s.data.toList.drop 2 else s.data.toList)),.bool (decide (bt s.data.toList 0 = c.toNat ∧ bt s.data.toList 1 = d.toNat))]) ∧ w' = w := by
 have := Tryz.strings_CutPrefix s ⟨#[c,d]⟩ w
 rw [show (⟨#[c,d]⟩ : ByteArray).data.toList = [c,d] from rfl,tp2,hp2] at this
 exact this
def bdS (l : List UInt8) : List UInt8 := if bsB l = 0 then [] else l.drop 2
def bsM (c base : Nat) (l : List UInt8) : Bool := decide (bt l 0 = 48 ∧ bt l 1 = c) && dgs base (l.drop 2)
theorem bs_if (l : List UInt8) : bsB l = if bsM 120 16 l = true then 16 else if bsM 111 8 l = true then 8 else if bsM 98 2 l = true then 2 else 0 := by
 unfold bsB bsM
 simp only [Bool.and_eq_true,decide_eq_true_eq,and_assoc]
set_option maxRecDepth 100000 in
set_option maxHeartbeats 8000000 in
theorem tbased_of (s : ByteArray) (w : World) (A0 D0 A1 D1 A2 D2 : ByteArray) (R : Value)
  (p0 z0 q0 : Bool) (b0 t0 r0 : ByteArray) (e0 : t0.toList.isEmpty = z0) (f0 : r0.toList.isEmpty = q0)
  (P0 : Hid (∀ X,Calls Tryz.prog 139 #[.string s,.string A0] X fun e w' => e = .returned (.tuple #[.string b0,.bool p0]) ∧ w' = X))
  (C0 : Hid (p0 = true → ∀ X,Calls Tryz.prog 299 #[.string b0,.string D0] X fun e w' => e = .returned (.tuple #[.string t0,.string r0]) ∧ Below X.heap.size X w'))
  (p1 z1 q1 : Bool) (b1 t1 r1 : ByteArray) (e1 : t1.toList.isEmpty = z1) (f1 : r1.toList.isEmpty = q1)
  (P1 : Hid (∀ X,Calls Tryz.prog 139 #[.string s,.string A1] X fun e w' => e = .returned (.tuple #[.string b1,.bool p1]) ∧ w' = X))
  (C1 : Hid (p1 = true → ∀ X,Calls Tryz.prog 299 #[.string b1,.string D1] X fun e w' => e = .returned (.tuple #[.string t1,.string r1]) ∧ Below X.heap.size X w'))
  (p2 z2 q2 : Bool) (b2 t2 r2 : ByteArray) (e2 : t2.toList.isEmpty = z2) (f2 : r2.toList.isEmpty = q2)
  (P2 : Hid (∀ X,Calls Tryz.prog 139 #[.string s,.string A2] X fun e w' => e = .returned (.tuple #[.string b2,.bool p2]) ∧ w' = X))
  (C2 : Hid (p2 = true → ∀ X,Calls Tryz.prog 299 #[.string b2,.string D2] X fun e w' => e = .returned (.tuple #[.string t2,.string r2]) ∧ Below X.heap.size X w'))
  (hg : Hid (∀ i v,([.string A0,.string D0,.int .i64 16,.string A1,.string D1,.int .i64 8,.string A2,.string D2,.int .i64 2] : List Value)[i]? = some v → w.cell? ⟨3,i,none⟩ = some v))
  (HR : Hid (R = if (p0 && (!z0 && q0)) = true then .tuple #[.string t0,.int .i64 16] else if (p1 && (!z1 && q1)) = true then .tuple #[.string t1,.int .i64 8] else if (p2 && (!z2 && q2)) = true then .tuple #[.string t2,.int .i64 2] else .tuple #[.string ⟨#[]⟩,.int .i64 0])) :
  Calls Tryz.prog 275 #[.string s] w fun e w' => e = .returned R ∧ Below w.heap.size w w' := by
 have g0 := hg.out 0 _ rfl
 have g1 := hg.out 1 _ rfl
 have g2 := hg.out 2 _ rfl
 have g3 := hg.out 3 _ rfl
 have g4 := hg.out 4 _ rfl
 have g5 := hg.out 5 _ rfl
 have g6 := hg.out 6 _ rfl
 have g7 := hg.out 7 _ rfl
 have g8 := hg.out 8 _ rfl
 have i0 : ∀ W,(Instr.index 307 (.agg #[.string A0,.string D0,.int .i64 16,.string A1,.string D1,.int .i64 8,.string A2,.string D2,.int .i64 2]) (.int .i64 0)).run Tryz.prog W = .ok (.agg #[.string A0,.string D0,.int .i64 16]) W := fun W => by kernel_rfl
 have i1 : ∀ W,(Instr.index 307 (.agg #[.string A0,.string D0,.int .i64 16,.string A1,.string D1,.int .i64 8,.string A2,.string D2,.int .i64 2]) (.int .i64 1)).run Tryz.prog W = .ok (.agg #[.string A1,.string D1,.int .i64 8]) W := fun W => by kernel_rfl
 have i2 : ∀ W,(Instr.index 307 (.agg #[.string A0,.string D0,.int .i64 16,.string A1,.string D1,.int .i64 8,.string A2,.string D2,.int .i64 2]) (.int .i64 2)).run Tryz.prog W = .ok (.agg #[.string A2,.string D2,.int .i64 2]) W := fun W => by kernel_rfl
 go_enter Tryz.func275,Tryz.ntmps275
 go_wp2_with fail
 clear g0 g1 g2 g3 g4 g5 g6 g7 g8 hg
 go_loopw [11] (fun x wr => ∃ k : Int,(k = 0 ∨ k = 1 ∨ k = 2 ∨ k = 3) ∧ x = .int .i64 k ∧ Hid (Below w.heap.size w wr) ∧ Hid ((1 ≤ k → (p0 && (!z0 && q0)) = false) ∧ (2 ≤ k → (p1 && (!z1 && q1)) = false) ∧ (3 ≤ k → (p2 && (!z2 && q2)) = false))) (fun x _ => 3 - (intOf x).toNat)
 case atStart => exact ⟨0,Or.inl rfl,rfl,Below.refl _ _,(fun h => absurd h (by decide)),(fun h => absurd h (by decide)),(fun h => absurd h (by decide))⟩
 case round =>
  obtain ⟨k,hk,rfl,HB,HM⟩ := hrel
  rcases hk with rfl | rfl | rfl | rfl
  ·clear e1 f1 P1 C1 e2 f2 P2 C2 i1 i2
   cases hp : p0 with
   | false =>
    rw [hp] at P0
    go_wp2_with (go_at_call 139; go_must (refine (P0.out _).mono ?_; rintro e w1 ⟨rfl,hw⟩; obtain rfl := hw.symm))
    go_round
    case rel => exact ⟨0 + 1,by omega,rfl,valloc_bel HB.out _,(fun _ => by simp),(fun h => absurd h (by decide)),(fun h => absurd h (by decide))⟩
    case measure => simp [intOf]
   | true =>
    rw [hp] at P0
    have CC := hid (C0.out hp)
    clear C0
    cases hz : z0 with
    | true =>
     rw [hz] at e0
     go_wp2_with (first
      | (go_at_call 139; go_must (refine (P0.out _).mono ?_; rintro e w1 ⟨rfl,hw⟩; obtain rfl := hw.symm))
      | (go_at_call 299; go_must (refine (CC.out _).mono ?_; rintro e w2 ⟨rfl,hb2⟩)))
     go_round
     case rel => exact ⟨0 + 1,by omega,rfl,vonto (valloc_bel HB.out _) hb2,(fun _ => by simp),(fun h => absurd h (by decide)),(fun h => absurd h (by decide))⟩
     case measure => simp [intOf]
    | false =>
     rw [hz] at e0
     cases hq : q0 with
     | false =>
      rw [hq] at f0
      go_wp2_with (first
       | (go_at_call 139; go_must (refine (P0.out _).mono ?_; rintro e w1 ⟨rfl,hw⟩; obtain rfl := hw.symm))
       | (go_at_call 299; go_must (refine (CC.out _).mono ?_; rintro e w2 ⟨rfl,hb2⟩)))
      go_round
      case rel => exact ⟨0 + 1,by omega,rfl,vonto (valloc_bel HB.out _) hb2,(fun _ => by simp),(fun h => absurd h (by decide)),(fun h => absurd h (by decide))⟩
      case measure => simp [intOf]
     | true =>
      rw [hq] at f0
      have HE := hid (show R = .tuple #[.string t0,.int .i64 16] by rw [HR.out,hp,hz,hq]; rfl)
      go_wp2_with (first
       | (go_at_call 139; go_must (refine (P0.out _).mono ?_; rintro e w1 ⟨rfl,hw⟩; obtain rfl := hw.symm))
       | (go_at_call 299; go_must (refine (CC.out _).mono ?_; rintro e w2 ⟨rfl,hb2⟩)))
      have hc2 : w2.cell? ⟨wr.heap.size,2,none⟩ = some (.int .i64 16) := by
       rw [hb2.cell (by simp)]
       exact (addz _ 2) ▸ new_cells wr [.string A0,.string D0,.int .i64 16] _ 2 _ rfl
      go_quiet (fail)
      go_wp2_with fail
      go_ret2
      exact ⟨by rw [HE.out]; rfl,vonto (vonto (valloc_bel HB.out _) hb2) (tdrew_below _ _)⟩
  ·clear e0 f0 P0 C0 e2 f2 P2 C2 i0 i2
   cases hp : p1 with
   | false =>
    rw [hp] at P1
    go_wp2_with (go_at_call 139; go_must (refine (P1.out _).mono ?_; rintro e w1 ⟨rfl,hw⟩; obtain rfl := hw.symm))
    go_round
    case rel => exact ⟨1 + 1,by omega,rfl,valloc_bel HB.out _,(fun _ => HM.out.1 (by omega)),(fun _ => by simp),(fun h => absurd h (by decide))⟩
    case measure => simp [intOf]
   | true =>
    rw [hp] at P1
    have CC := hid (C1.out hp)
    clear C1
    cases hz : z1 with
    | true =>
     rw [hz] at e1
     go_wp2_with (first
      | (go_at_call 139; go_must (refine (P1.out _).mono ?_; rintro e w1 ⟨rfl,hw⟩; obtain rfl := hw.symm))
      | (go_at_call 299; go_must (refine (CC.out _).mono ?_; rintro e w2 ⟨rfl,hb2⟩)))
     go_round
     case rel => exact ⟨1 + 1,by omega,rfl,vonto (valloc_bel HB.out _) hb2,(fun _ => HM.out.1 (by omega)),(fun _ => by simp),(fun h => absurd h (by decide))⟩
     case measure => simp [intOf]
    | false =>
     rw [hz] at e1
     cases hq : q1 with
     | false =>
      rw [hq] at f1
      go_wp2_with (first
       | (go_at_call 139; go_must (refine (P1.out _).mono ?_; rintro e w1 ⟨rfl,hw⟩; obtain rfl := hw.symm))
       | (go_at_call 299; go_must (refine (CC.out _).mono ?_; rintro e w2 ⟨rfl,hb2⟩)))
      go_round
      case rel => exact ⟨1 + 1,by omega,rfl,vonto (valloc_bel HB.out _) hb2,(fun _ => HM.out.1 (by omega)),(fun _ => by simp),(fun h => absurd h (by decide))⟩
      case measure => simp [intOf]
     | true =>
      rw [hq] at f1
      have HE := hid (show R = .tuple #[.string t1,.int .i64 8] by rw [HR.out,HM.out.1 (by omega),hp,hz,hq]; rfl)
      go_wp2_with (first
       | (go_at_call 139; go_must (refine (P1.out _).mono ?_; rintro e w1 ⟨rfl,hw⟩; obtain rfl := hw.symm))
       | (go_at_call 299; go_must (refine (CC.out _).mono ?_; rintro e w2 ⟨rfl,hb2⟩)))
      have hc2 : w2.cell? ⟨wr.heap.size,2,none⟩ = some (.int .i64 8) := by
       rw [hb2.cell (by simp)]
       exact (addz _ 2) ▸ new_cells wr [.string A1,.string D1,.int .i64 8] _ 2 _ rfl
      go_quiet (fail)
      go_wp2_with fail
      go_ret2
      exact ⟨by rw [HE.out]; rfl,vonto (vonto (valloc_bel HB.out _) hb2) (tdrew_below _ _)⟩
  ·clear e0 f0 P0 C0 e1 f1 P1 C1 i0 i1
   cases hp : p2 with
   | false =>
    rw [hp] at P2
    go_wp2_with (go_at_call 139; go_must (refine (P2.out _).mono ?_; rintro e w1 ⟨rfl,hw⟩; obtain rfl := hw.symm))
    go_round
    case rel => exact ⟨2 + 1,by omega,rfl,valloc_bel HB.out _,(fun _ => HM.out.1 (by omega)),(fun _ => HM.out.2.1 (by omega)),(fun _ => by simp)⟩
    case measure => simp [intOf]
   | true =>
    rw [hp] at P2
    have CC := hid (C2.out hp)
    clear C2
    cases hz : z2 with
    | true =>
     rw [hz] at e2
     go_wp2_with (first
      | (go_at_call 139; go_must (refine (P2.out _).mono ?_; rintro e w1 ⟨rfl,hw⟩; obtain rfl := hw.symm))
      | (go_at_call 299; go_must (refine (CC.out _).mono ?_; rintro e w2 ⟨rfl,hb2⟩)))
     go_round
     case rel => exact ⟨2 + 1,by omega,rfl,vonto (valloc_bel HB.out _) hb2,(fun _ => HM.out.1 (by omega)),(fun _ => HM.out.2.1 (by omega)),(fun _ => by simp)⟩
     case measure => simp [intOf]
    | false =>
     rw [hz] at e2
     cases hq : q2 with
     | false =>
      rw [hq] at f2
      go_wp2_with (first
       | (go_at_call 139; go_must (refine (P2.out _).mono ?_; rintro e w1 ⟨rfl,hw⟩; obtain rfl := hw.symm))
       | (go_at_call 299; go_must (refine (CC.out _).mono ?_; rintro e w2 ⟨rfl,hb2⟩)))
      go_round
      case rel => exact ⟨2 + 1,by omega,rfl,vonto (valloc_bel HB.out _) hb2,(fun _ => HM.out.1 (by omega)),(fun _ => HM.out.2.1 (by omega)),(fun _ => by simp)⟩
      case measure => simp [intOf]
     | true =>
      rw [hq] at f2
      have HE := hid (show R = .tuple #[.string t2,.int .i64 2] by rw [HR.out,HM.out.1 (by omega),HM.out.2.1 (by omega),hp,hz,hq]; rfl)
      go_wp2_with (first
       | (go_at_call 139; go_must (refine (P2.out _).mono ?_; rintro e w1 ⟨rfl,hw⟩; obtain rfl := hw.symm))
       | (go_at_call 299; go_must (refine (CC.out _).mono ?_; rintro e w2 ⟨rfl,hb2⟩)))
      have hc2 : w2.cell? ⟨wr.heap.size,2,none⟩ = some (.int .i64 2) := by
       rw [hb2.cell (by simp)]
       exact (addz _ 2) ▸ new_cells wr [.string A2,.string D2,.int .i64 2] _ 2 _ rfl
      go_quiet (fail)
      go_wp2_with fail
      go_ret2
      exact ⟨by rw [HE.out]; rfl,vonto (vonto (valloc_bel HB.out _) hb2) (tdrew_below _ _)⟩
  ·have HE := hid (show R = .tuple #[.string ⟨#[]⟩,.int .i64 0] by rw [HR.out,HM.out.1 (by omega),HM.out.2.1 (by omega),HM.out.2.2 (by omega)]; rfl)
   go_wp2_with fail
   go_ret2
   exact ⟨by rw [HE.out]; rfl,HB.out⟩
theorem tbased_any (s : ByteArray) (w : World) (hs : s.size ≤ 1000000) (hg : GlobB w) :
  Calls Tryz.prog 275 #[.string s] w fun e w' => e = .returned (.tuple #[.string (mkS (bdS s.data.toList)),.int .i64 (bsB s.data.toList : Nat)]) ∧ Below w.heap.size w w' := by
 have hdl : (s.data.toList.drop 2).length ≤ 1000000 := by rw [List.length_drop,size_list]; omega
 have hc0 := cdN_le (dgB 16) false (s.data.toList.drop 2)
 have C0 : Hid (decide (bt s.data.toList 0 = 48 ∧ bt s.data.toList 1 = 120) = true → ∀ X,Calls Tryz.prog 299 #[.string (mkS (if bt s.data.toList 0 = 48 ∧ bt s.data.toList 1 = 120 then s.data.toList.drop 2 else s.data.toList)),.string ⟨#[48,49,50,51,52,53,54,55,56,57,97,98,99,100,101,102,65,66,67,68,69,70]⟩] X fun e w' => e = .returned (.tuple #[.string (mkS ((s.data.toList.drop 2).take (cdN (dgB 16) false (s.data.toList.drop 2)))),.string (mkS ((s.data.toList.drop 2).drop (cdN (dgB 16) false (s.data.toList.drop 2))))]) ∧ Below X.heap.size X w') := fun h X => by
  rw [if_pos (of_decide_eq_true h)]
  have := tcut_base (mkS (s.data.toList.drop 2)) ⟨#[48,49,50,51,52,53,54,55,56,57,97,98,99,100,101,102,65,66,67,68,69,70]⟩ 16 in_hex X (by rw [mkS_size]; exact hdl)
  rw [mkS_list] at this; exact this
 have hc1 := cdN_le (dgB 8) false (s.data.toList.drop 2)
 have C1 : Hid (decide (bt s.data.toList 0 = 48 ∧ bt s.data.toList 1 = 111) = true → ∀ X,Calls Tryz.prog 299 #[.string (mkS (if bt s.data.toList 0 = 48 ∧ bt s.data.toList 1 = 111 then s.data.toList.drop 2 else s.data.toList)),.string ⟨#[48,49,50,51,52,53,54,55]⟩] X fun e w' => e = .returned (.tuple #[.string (mkS ((s.data.toList.drop 2).take (cdN (dgB 8) false (s.data.toList.drop 2)))),.string (mkS ((s.data.toList.drop 2).drop (cdN (dgB 8) false (s.data.toList.drop 2))))]) ∧ Below X.heap.size X w') := fun h X => by
  rw [if_pos (of_decide_eq_true h)]
  have := tcut_base (mkS (s.data.toList.drop 2)) ⟨#[48,49,50,51,52,53,54,55]⟩ 8 in_oct X (by rw [mkS_size]; exact hdl)
  rw [mkS_list] at this; exact this
 have hc2 := cdN_le (dgB 2) false (s.data.toList.drop 2)
 have C2 : Hid (decide (bt s.data.toList 0 = 48 ∧ bt s.data.toList 1 = 98) = true → ∀ X,Calls Tryz.prog 299 #[.string (mkS (if bt s.data.toList 0 = 48 ∧ bt s.data.toList 1 = 98 then s.data.toList.drop 2 else s.data.toList)),.string ⟨#[48,49]⟩] X fun e w' => e = .returned (.tuple #[.string (mkS ((s.data.toList.drop 2).take (cdN (dgB 2) false (s.data.toList.drop 2)))),.string (mkS ((s.data.toList.drop 2).drop (cdN (dgB 2) false (s.data.toList.drop 2))))]) ∧ Below X.heap.size X w') := fun h X => by
  rw [if_pos (of_decide_eq_true h)]
  have := tcut_base (mkS (s.data.toList.drop 2)) ⟨#[48,49]⟩ 2 in_bin X (by rw [mkS_size]; exact hdl)
  rw [mkS_list] at this; exact this
 refine tbased_of s w ⟨#[48,120]⟩ ⟨#[48,49,50,51,52,53,54,55,56,57,97,98,99,100,101,102,65,66,67,68,69,70]⟩ ⟨#[48,111]⟩ ⟨#[48,49,50,51,52,53,54,55]⟩ ⟨#[48,98]⟩ ⟨#[48,49]⟩ _ _ _ _ _ _ _ (by rw [mkS_empty,take_nil hc0]) (by rw [mkS_empty,drop_nil hc0]) (fun X => tcutp2 s 48 120 X) C0 _ _ _ _ _ _ (by rw [mkS_empty,take_nil hc1]) (by rw [mkS_empty,drop_nil hc1]) (fun X => tcutp2 s 48 111 X) C1 _ _ _ _ _ _ (by rw [mkS_empty,take_nil hc2]) (by rw [mkS_empty,drop_nil hc2]) (fun X => tcutp2 s 48 98 X) C2 hg ?_
 show _ = _
 have e := bs_if s.data.toList
 have k : ∀ c B,bsM c B s.data.toList = (decide (bt s.data.toList 0 = 48 ∧ bt s.data.toList 1 = c) && (!decide (cdN (dgB B) false (s.data.toList.drop 2) = 0) && decide (cdN (dgB B) false (s.data.toList.drop 2) = (s.data.toList.drop 2).length))) := fun c B => by unfold bsM; rw [dgs_is]
 have t : ∀ c B,bsM c B s.data.toList = true → (s.data.toList.drop 2).take (cdN (dgB B) false (s.data.toList.drop 2)) = s.data.toList.drop 2 := fun c B h => by
  rw [k,Bool.and_eq_true,Bool.and_eq_true,decide_eq_true_eq (p := _ = List.length _)] at h
  rw [h.2.2,List.take_of_length_le (Nat.le_refl _)]
 simp only [show UInt8.toNat 48 = 48 from rfl,show UInt8.toNat 120 = 120 from rfl,show UInt8.toNat 111 = 111 from rfl,show UInt8.toNat 98 = 98 from rfl]
 rw [← k 120 16,← k 111 8,← k 98 2]
 unfold bdS
 by_cases h0 : bsM 120 16 s.data.toList = true
 ·rw [if_pos h0] at e
  rw [if_pos h0,e,t 120 16 h0]; rfl
 ·rw [if_neg h0] at e
  rw [if_neg h0]
  by_cases h1 : bsM 111 8 s.data.toList = true
  ·rw [if_pos h1] at e
   rw [if_pos h1,e,t 111 8 h1]; rfl
  ·rw [if_neg h1] at e
   rw [if_neg h1]
   by_cases h2 : bsM 98 2 s.data.toList = true
   ·rw [if_pos h2] at e
    rw [if_pos h2,e,t 98 2 h2]; rfl
   ·rw [if_neg h2] at e
    rw [if_neg h2,e]; rfl
end Go.Proofs.YteimbjamnfkapaaGreatDoor
