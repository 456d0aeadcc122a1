import Derived.Test.YteimbjamnfkapaaGreatDoorLFlH
import Derived.Test.YteimbjamnfkapaaGreatDoorLFlF
import Derived.Test.YteimbjamnfkapaaGreatDoorLCeB
import Derived.Test.YteimbjamnfkapaaGreatDoorLMathFd
import Derived.Test.YteimbjamnfkapaaGreatDoorLOwnB
import Derived.Test.YteimbjamnfkapaaGreatDoorLRefMake
/- flat.names and flat.row, walked. -/
namespace Go.Proofs.YteimbjamnfkapaaGreatDoor
open Go.RowKit
theorem Tryz.madeS (n : Nat) (h : n ≤ 1000001) (w : World) : (Instr.makeSlice 22 (.int .i64 (n : Int)) (.int .i64 (n : Int))).run Tryz.prog w = .ok (.slice (some ⟨w.heap.size,0,none⟩) n n) (w.alloc (.cells (madeCells #[.string ⟨#[]⟩] n) 9)) := by
 obtain ⟨i,hi,hz⟩ := Option.map_eq_some_iff.1 (show (Tryz.prog.info? 9).map (fun i => (i.zero,i.size,i.bytes)) = some (some (.string ⟨#[]⟩),1,16) by kernel_rfl)
 simp only [Prod.mk.injEq] at hz
 obtain ⟨hz,hs,hb⟩ := hz
 have := run_make (P := Tryz.prog) w 22 9 i _ Tryz.underlying22 hi hz .i64 .i64 n n (by omega) (Int.le_refl _) (by rw [hb]; omega) (by omega)
 rw [hs] at this
 simp only [Int.toNat_natCast,Nat.mul_one] at this
 exact this
structure Fil (w wr : World) (n : Nat) (K : List ByteArray) : Prop where
 bel : Below w.heap.size w wr
 own : wr.ownsRow w.heap.size 9 1 (.slice (some ⟨w.heap.size,0,none⟩) n n) n (K.map Value.string)
theorem Fil.onto {w wr wr' : World} {n : Nat} {K : List ByteArray} (h : Fil w wr n K) (hb : Below wr.heap.size wr wr') : Fil w wr' n K := ⟨vonto h.bel hb,ownsRow_below h.own hb⟩
theorem Fil.new (w : World) (n : Nat) (h : n ≤ 1000001) : Fil w (w.alloc (.cells (madeCells #[.string ⟨#[]⟩] n) 9)) n (List.replicate n ⟨#[]⟩) := by
 refine ⟨valloc_bel (Below.refl _ _) _,?_⟩
 have := World.ownsRow_lit (e := 9) (size := 1) (base := w.heap.size) w (madeCells #[.string ⟨#[]⟩] n) n (Nat.le_refl _) (by unfold maxLen; omega) (by rw [size_madeCells]; omega)
 rw [toList_madeCells_one] at this
 rw [List.map_replicate]; exact this
theorem Fil.len {w wr : World} {n : Nat} {K : List ByteArray} (h : Fil w wr n K) : K.length = n := by have := h.own.1; simp at this; omega
theorem Fil.set {w wr : World} {n : Nat} {K : List ByteArray} (h : Fil w wr n K) (j : Nat) (c : ByteArray) : Fil w (wr.setCell ⟨w.heap.size,j,none⟩ (.string c)) n (K.set j c) := by
 refine ⟨vset_bel h.bel (Nat.le_refl _),?_⟩
 have := (h.own.stored j (.string c)).1
 rw [List.map_set]; exact this
theorem Fil.cell {w wr : World} {n : Nat} {K : List ByteArray} (h : Fil w wr n K) {j : Nat} (hj : j < n) : ∃ c,wr.cell? ⟨w.heap.size,j,none⟩ = some (.string c) := by
 have hl := h.len
 refine ⟨K[j],?_⟩
 rw [h.own.cellAt j (by omega),List.getElem?_map,List.getElem?_eq_getElem (by omega)]; rfl
structure StrO (w wr : World) (K : List ByteArray) (v : Value) : Prop where
 own : wr.ownsRow w.heap.size 9 1 v K.length (K.map Value.string)
 sm : ∀ c ∈ K,c.size ≤ maxLen
theorem StrO.onto {w wr wr' : World} {K : List ByteArray} {v : Value} (h : StrO w wr K v) (hb : Below wr.heap.size wr wr') : StrO w wr' K v := ⟨ownsRow_below h.own hb,h.sm⟩
theorem Fil.stro {w wr : World} {n : Nat} {K : List ByteArray} (h : Fil w wr n K) (hl : K.length = n) (hk : ∀ c ∈ K,c.size ≤ maxLen) : StrO w wr K (.slice (some ⟨w.heap.size,0,none⟩) n n) := ⟨by rw [hl]; exact h.own,hk⟩
def nmP (p : List PStep) : ByteArray := mkS ((textP p).drop 1)
def nmL (C : List (List PStep)) (j : Nat) : List ByteArray := (C.take j).map nmP ++ List.replicate (C.length - j) ⟨#[]⟩
theorem nmL_set {C : List (List PStep)} {j : Nat} {p : List PStep} (h : C[j]? = some p) : (nmL C j).set j (nmP p) = nmL C (j + 1) := by
 have hj := lt_of_some h
 unfold nmL
 rw [List.set_append_right _ _ (by simp; omega),List.length_map,List.length_take,Nat.min_eq_left (by omega),Nat.sub_self,show C.length - j = (C.length - (j + 1)) + 1 by omega,List.replicate_succ,List.set_cons_zero,List.take_add_one,h]
 simp
theorem nmL_end (C : List (List PStep)) : nmL C C.length = C.map nmP := by unfold nmL; simp
theorem small_frm {p : List PStep} {m : Nat} (h : ∀ s ∈ p,Small s) (hl : p.length ≤ m) : (textP p).length ≤ m * 2000003 := Nat.le_trans (textP_len p h) (Nat.mul_le_mul_right _ hl)
set_option maxRecDepth 100000 in
set_option maxHeartbeats 4000000 in
theorem names_any (C : List (List PStep)) (v : Value) (w : World) (hC : InC w C v) (hg : Glob5 w) (hs : ∀ p ∈ C,(∀ s ∈ p,Small s) ∧ p.length ≤ 100 ∧ 0 < p.length) (hl : C.length ≤ 1000000) :
  Calls Tryz.prog 59 #[v] w fun e w' => ∃ u,e = .returned u ∧ StrO w w' (C.map nmP) u ∧ Below w.heap.size w w' := by
 obtain ⟨a,⟨o,cap,rfl,h1,h2,h3⟩,hc⟩ := hC
 unfold maxLen at h2
 have HC := hid hc
 have HS := hid hs
 have HG := hid hg
 have hmk := Tryz.madeS C.length (by omega) w
 have HN0 := hid (Fil.new w C.length (by omega))
 clear hc hs hg
 go_enter Tryz.func59,Tryz.ntmps59
 go_wp2_with fail
 generalize w.alloc (.cells (madeCells #[.string ⟨#[]⟩] C.length) 9) = w0 at *
 go_loopw [11] (fun i wr => ∃ j : Nat,i = .int .i64 j ∧ j ≤ C.length ∧ Hid (Fil w wr C.length (nmL C j))) (fun i _ => C.length - (intOf i).toNat)
 case atStart => exact ⟨0,rfl,Nat.zero_le _,hid (by have := HN0.out; unfold nmL; simpa using this)⟩
 case round =>
  clear HN0
  obtain ⟨j,rfl,hj,HF⟩ := hrel
  by_cases hlt : j < C.length
  ·obtain ⟨p,hp⟩ : ∃ p,C[j]? = some p := ⟨C[j],List.getElem?_eq_getElem hlt⟩
   obtain rfl := h3 (by omega)
   obtain ⟨u,hu,hip⟩ := HC.out j p hp
   have hu' := keepCell HF.out.bel hu
   obtain ⟨ou,cu,rfl⟩ := inp_slice hip
   obtain ⟨hsm,hpl,hp0⟩ := HS.out p (List.mem_of_getElem? hp)
   have CT := hid (ptext_any p _ wr (hip.onto HF.out.bel) (HG.out.on HF.out.bel) (by omega) hsm)
   have htl := small_frm hsm hpl
   have hne : 1 ≤ (textP p).length := by
    cases p with
    | nil => simp at hp0
    | cons s r => show 1 ≤ ((47 :: stepT s) ++ _).length; simp
   obtain ⟨t,ht⟩ : ∃ t,mkS (textP p) = t := ⟨_,rfl⟩
   have hts : t.size = (textP p).length := by rw [← ht]; show ((textP p).toArray).size = _; simp
   have HNM := hid (show t.extract 1 t.size = nmP p by
    unfold nmP
    rw [← ht]
    apply ba_eq
    rw [drop_list]; simp [mkS])
   have HP := hid hp
   rw [ht] at CT
   have htl2 : t.size ≤ 200000300 := by omega
   have hts1 : 1 ≤ t.size := by omega
   clear hu hip hsm hp ht hts htl hne hpl hp0
   go_wp2_with fail
   go_at_call 107
   refine CT.out.mono ?_
   rintro e w2 ⟨rfl,hb2⟩
   have HF2 := hid (HF.out.onto hb2)
   obtain ⟨c,hcell⟩ := HF2.out.cell hlt
   have hfz := HF2.out.own.frozenAt j
   clear hb2
   go_wp2_with fail
   go_roundw
   case rel => exact ⟨j + 1,val_int (by omega),hlt,hid (by have := HF2.out.set j (nmP p); rw [nmL_set HP.out] at this; rw [HNM.out]; exact this)⟩
   case measure => simp [intOf]; omega
  ·have hjn : j = C.length := by omega
   subst hjn
   rw [nmL_end] at HF
   have HSZ : Hid (∀ c ∈ C.map nmP,c.size ≤ maxLen) := hid (fun c hc => by
    obtain ⟨p,hp,rfl⟩ := List.mem_map.1 hc
    obtain ⟨a1,a2,-⟩ := HS.out p hp
    have := small_frm a1 a2
    unfold maxLen
    have e : (nmP p).size = (textP p).length - 1 := by show (((textP p).drop 1).toArray).size = _; simp
    omega)
   go_wp2_with fail
   go_ret
   exact ⟨_,rfl,HF.out.stro (by simp) HSZ.out,HF.out.bel⟩
end Go.Proofs.YteimbjamnfkapaaGreatDoor
/- flat.row and flat.listOfMaps, walked. -/
namespace Go.Proofs.YteimbjamnfkapaaGreatDoor
open Go.RowKit
def cellP (T : VT) : ByteArray := if celB T = true then mkS (celW T) else ⟨#[]⟩
def rowF (l : List (List PStep × VT)) (C : List (List PStep)) (R : List ByteArray) : List ByteArray := l.foldl (fun R e => R.set (posC C e.1) (cellP e.2)) R
def rowM (l : List (List PStep × VT)) (C : List (List PStep)) : List ByteArray := rowF l C (List.replicate C.length ⟨#[]⟩)
theorem rowF_len : ∀ (l : List (List PStep × VT)) (C : List (List PStep)) (R : List ByteArray),(rowF l C R).length = R.length
 | [],_,_ => rfl
 | e :: l,C,R => by
  show (rowF l C (R.set _ _)).length = _
  rw [rowF_len l,List.length_set]
theorem rowM_len (l : List (List PStep × VT)) (C : List (List PStep)) : (rowM l C).length = C.length := by unfold rowM; rw [rowF_len]; simp
theorem rowF_snoc (l : List (List PStep × VT)) (e : List PStep × VT) (C : List (List PStep)) (R : List ByteArray) : rowF (l ++ [e]) C R = (rowF l C R).set (posC C e.1) (cellP e.2) := by unfold rowF; rw [List.foldl_append]; rfl
theorem mem_set_of {α : Type} {R : List α} {i : Nat} {c x : α} (h : x ∈ R.set i c) : x ∈ R ∨ x = c := by
 rcases List.mem_or_eq_of_mem_set h with h | h
 ·exact .inl h
 ·exact .inr h
theorem rowF_mem : ∀ (l : List (List PStep × VT)) (C : List (List PStep)) (R : List ByteArray) (x : ByteArray),x ∈ rowF l C R → x ∈ R ∨ ∃ e ∈ l,x = cellP e.2
 | [],_,_,_,h => .inl h
 | e :: l,C,R,x,h => by
  rcases rowF_mem l C _ x h with h | ⟨e',h1,h2⟩
  ·rcases mem_set_of h with h | h
   ·exact .inl h
   ·exact .inr ⟨e,by simp,h⟩
  ·exact .inr ⟨e',by simp [h1],h2⟩
set_option maxRecDepth 100000 in
set_option maxHeartbeats 4000000 in
theorem row_any (l : List (List PStep × VT)) (C : List (List PStep)) (lv cv : Value) (w : World) (hL : InLf w l lv) (hC : InC w C cv) (hg : GlobC5 w) (hm : ∀ e ∈ l,Mono C e.1 ∧ posC C e.1 < C.length ∧ (cellP e.2).size ≤ maxLen) (hl : C.length ≤ 1000000) :
  Calls Tryz.prog 60 #[lv,cv] w fun e w' => ∃ u,e = .returned u ∧ StrO w w' (rowM l C) u ∧ Below w.heap.size w w' := by
 obtain ⟨al,⟨ol,cl,rfl,hl1,hl2,hl3⟩,hle⟩ := hL
 have HCC := hid hC
 obtain ⟨ac,⟨oc,cc,rfl,-⟩,-⟩ := hC
 unfold maxLen at hl2
 have HLE := hid hle
 have HM := hid hm
 have HG := hid hg
 have hmk := Tryz.madeS C.length (by omega) w
 have HN0 := hid (Fil.new w C.length (by omega))
 clear hle hm hg
 go_enter Tryz.func60,Tryz.ntmps60
 go_wp2_with fail
 generalize w.alloc (.cells (madeCells #[.string ⟨#[]⟩] C.length) 9) = w0 at *
 go_loopw [15] (fun i wr => ∃ j : Nat,i = .int .i64 j ∧ j ≤ l.length ∧ Hid (Fil w wr C.length (rowM (l.take j) C))) (fun i _ => l.length - (intOf i).toNat)
 case atStart => exact ⟨0,rfl,Nat.zero_le _,HN0⟩
 case round =>
  clear HN0
  obtain ⟨k,rfl,hk,HF⟩ := hrel
  by_cases hlt : k < l.length
  ·obtain ⟨e,he⟩ : ∃ e,l[k]? = some e := ⟨l[k],List.getElem?_eq_getElem hlt⟩
   obtain rfl := hl3 (by omega)
   obtain ⟨u,x,y,c0,c1,hip,hhv⟩ := HLE.out k e he
   have c0' := keepCell HF.out.bel c0
   obtain ⟨d0,d1,d2,d3,d4⟩ := c1.onto HF.out.bel
   obtain ⟨o1,n1,k1,o2,n2,k2,rfl,rfl⟩ := hv_slices hhv
   simp only [nx] at d0 d1 d2 d3 d4
   obtain ⟨hmo,hpos,hcs⟩ := HM.out e (List.mem_of_getElem? he)
   obtain ⟨p,hp⟩ : ∃ p,e.1 = p := ⟨_,rfl⟩
   obtain ⟨T,hT⟩ : ∃ T,e.2 = T := ⟨_,rfl⟩
   have HNX := hid (show rowM (l.take (k + 1)) C = (rowM (l.take k) C).set (posC C p) (cellP T) by
    unfold rowM
    rw [List.take_add_one,he]
    show rowF (l.take k ++ [e]) C _ = _
    rw [rowF_snoc,hp,hT])
   rw [hp] at hip hmo hpos
   rw [hT] at d0 d1 d2 hhv
   obtain ⟨ou,cu,rfl⟩ := inp_slice hip
   have HIP := hid hip
   have HBS := hid (fun (W : World) (hW : Below wr.heap.size wr W) => bsearch_any C p _ _ W (HCC.out.onto (vonto HF.out.bel hW)) (HIP.out.onto (vonto HF.out.bel hW)) hmo hl)
   have HTX := hid (fun (W : World) (hW : Below wr.heap.size wr W) => cetext_any T _ _ W (HG.out.on (vonto HF.out.bel hW)) (hhv.onto (vonto HF.out.bel hW)))
   have HCP : Hid (cellP T = if celB T = true then mkS (celW T) else ⟨#[]⟩) := hid rfl
   rw [← HCP.out] at HTX
   simp only [vv] at HTX
   obtain ⟨H0,hH0⟩ : ∃ H0,hasC C p = H0 := ⟨_,rfl⟩
   obtain ⟨P0,hP0⟩ : ∃ P0,posC C p = P0 := ⟨_,rfl⟩
   obtain ⟨B0,hB0⟩ : ∃ B0,celB T = B0 := ⟨_,rfl⟩
   obtain ⟨S0,hS0⟩ : ∃ S0,cellP T = S0 := ⟨_,rfl⟩
   rw [hH0] at HBS
   rw [hP0] at HBS hpos HNX
   rw [hB0,hS0] at HTX
   rw [hS0] at HNX
   clear c0 c1 hip hhv hp hT he hmo hcs hH0 hP0 hB0 hS0 HCP
   go_wp2_with fail
   go_at_call 104
   refine (HBS.out _ (valloc_bel (Below.refl _ _) _)).mono ?_
   rintro e' w2 ⟨rfl,hb2⟩
   have z1 : w2.cell? ⟨wr.heap.size,1,none⟩ = some (.int .i64 T.kd) := keepCell hb2 (by simp)
   have z2 : w2.cell? ⟨wr.heap.size,2,none⟩ = some (.int .i64 T.nm) := keepCell hb2 (by simp)
   have z3 : w2.cell? ⟨wr.heap.size,3,none⟩ = some (.string T.st) := keepCell hb2 (by simp)
   have z4 : w2.cell? ⟨wr.heap.size,4,none⟩ = some (.slice o1 n1 k1) := keepCell hb2 (by simp)
   have z5 : w2.cell? ⟨wr.heap.size,5,none⟩ = some (.slice o2 n2 k2) := keepCell hb2 (by simp)
   have HB2 := hid (vonto (valloc_bel (Below.refl wr.heap.size wr) (.cells #[.slice ou p.length cu,.int .i64 T.kd,.int .i64 T.nm,.string T.st,.slice o1 n1 k1,.slice o2 n2 k2] 43)) hb2)
   clear hb2
   go_wp2_with fail
   go_at_call 108
   refine (HTX.out _ HB2.out).mono ?_
   rintro e' w3 ⟨rfl,hb3⟩
   have HF3 := hid (HF.out.onto (vonto HB2.out hb3))
   obtain ⟨c,hcell⟩ := HF3.out.cell hpos
   have hfz := HF3.out.own.frozenAt P0
   clear hb3 z1 z2 z3 z4 z5
   go_wp2_with fail
   go_roundw
   case rel => exact ⟨k + 1,val_int (by omega),hlt,hid (by have := HF3.out.set P0 S0; rw [← HNX.out] at this; exact this)⟩
   case measure => simp [intOf]; omega
  ·have htk : l.take k = l := List.take_of_length_le (by omega)
   rw [htk] at HF
   clear htk
   have HSZ : Hid (∀ c ∈ rowM l C,c.size ≤ maxLen) := hid (fun c hc => by
    rcases rowF_mem _ _ _ _ hc with h | ⟨e,h1,rfl⟩
    ·rw [List.mem_replicate] at h
     rw [h.2]; exact Nat.zero_le _
    ·exact (HM.out e h1).2.2)
   go_wp2_with fail
   go_ret
   exact ⟨_,rfl,HF.out.stro (rowM_len l C) HSZ.out,HF.out.bel⟩
def lomB (T : VT) : Bool := decide (T.kd = 5) && !T.ls.isEmpty && mayB 0 1 T && T.ls.all (fun t => decide (t.kd = 6) && !t.vs.isEmpty)
theorem all_not {α : Type} {f : α → Bool} {L : List α} {i : Nat} {t : α} (h : L[i]? = some t) (hf : f t = false) : L.all f = false := by
 rw [List.all_eq_false]; exact ⟨t,List.mem_of_getElem? h,by rw [hf]; decide⟩
set_option maxRecDepth 100000 in
set_option maxHeartbeats 4000000 in
theorem lom_any (T : VT) (x y : Value) (w : World) (hT : HV w T x y) (hg : Glob w) :
  Calls Tryz.prog 57 #[vv T x y] w fun e w' => e = .returned (.bool (lomB T)) ∧ Below w.heap.size w w' := by
 obtain ⟨R,hR⟩ : ∃ R,lomB T = R := ⟨_,rfl⟩
 rw [hR]
 have hb0 : ∀ o,Below w.heap.size w (w.alloc o) := fun o => valloc_bel (Below.refl _ _) o
 have HGD := hid (fun (X : World) (hX : Below w.heap.size w X) => vgood_any T x y X (hg.on hX) (hT.onto hX))
 obtain ⟨al,bl,f,g,p,q,oL,oM,cL,cM,rfl,rfl,-,-,hL3,hM3,hK,-,hlL,hlM,kL,kK,kM,rL,rM,-,-⟩ := hT.parts
 simp only [vv] at HGD ⊢
 have HkL := hid kL; have HrL := hid rL
 clear kL kK kM rL rM hK hT hg
 by_cases h5 : T.kd = 5
 ·have t5 : (T.kd == 5) = true := by simpa using h5
  have t5' : (T.kd != 5) = false := by simpa using h5
  by_cases h0 : T.ls.length = 0
  ·have hf : R = false := by
    rw [← hR]; unfold lomB
    rw [List.eq_nil_of_length_eq_zero h0]; simp
   subst hf
   clear hR HGD
   go_enter Tryz.func57,Tryz.ntmps57
   go_wp2_with fail
   go_ret
   exact ⟨rfl,hb0 _⟩
  ·have e0 : T.ls.isEmpty = false := by cases hl : T.ls with | nil => simp [hl] at h0 | cons a r => rfl
   cases hgd : mayB 0 1 T with
   | false =>
    have hf : R = false := by rw [← hR]; unfold lomB; rw [hgd]; simp
    subst hf
    rw [hgd] at HGD
    obtain rfl := hL3 (by omega)
    clear hR hgd hL3 h5
    go_enter Tryz.func57,Tryz.ntmps57
    go_wp2_with (go_at_call 43; go_must (refine (HGD.out _ (hb0 _)).mono ?_; rintro e w2 ⟨rfl,hb2⟩))
    go_ret
    exact ⟨rfl,vonto (hb0 _) hb2⟩
   | true =>
    rw [hgd] at HGD
    have HR := hid (show R = T.ls.all (fun t => decide (t.kd = 6) && !t.vs.isEmpty) by
     rw [← hR]; unfold lomB; rw [hgd,e0,decide_eq_true h5]; simp)
    obtain rfl := hL3 (by omega)
    have hz4 := (good_sz hgd).1
    have hls4 := len_sz T
    have hls5 : T.ls.length ≤ 1000000 := by omega
    clear hR hgd h5 e0 hL3 hz4 hls4
    go_enter Tryz.func57,Tryz.ntmps57
    go_wp2_with fail
    go_at_call 43
    refine (HGD.out _ (hb0 _)).mono ?_
    rintro e w2 ⟨rfl,hb2⟩
    have z3 : w2.cell? ⟨w.heap.size,3,none⟩ = some (.slice (some al) T.ls.length cL) := keepCell hb2 (by simp)
    have HB2 := hid (vonto (hb0 _) hb2)
    clear hb2 HGD
    go_wp2_with fail
    go_loopw [22] (fun i wr => ∃ j : Nat,i = .int .i64 j ∧ j ≤ T.ls.length ∧ Hid (∀ k t,k < j → T.ls[k]? = some t → (decide (t.kd = 6) && !t.vs.isEmpty) = true) ∧ Hid (Below w.heap.size w wr)) (fun i _ => T.ls.length - (intOf i).toNat)
    case atStart => exact ⟨0,rfl,Nat.zero_le _,fun k t h => absurd h (Nat.not_lt_zero _),HB2⟩
    case round =>
     obtain ⟨j,rfl,hj,HJ,HB⟩ := hrel
     by_cases hlt : j < T.ls.length
     ·obtain ⟨t,ht⟩ : ∃ t,T.ls[j]? = some t := ⟨T.ls[j],List.getElem?_eq_getElem hlt⟩
      obtain ⟨d0,d1,d2,d3,d4⟩ := (HkL.out j t ht).onto HB.out
      obtain ⟨al',bl',-,-,-,-,oL',oM',cL',cM',hf,hg',-⟩ := (HrL.out j t ht).parts
      rw [hf] at d3
      rw [hg'] at d4
      have HTT := hid ht
      clear hf hg' ht
      by_cases h6 : t.kd = 6
      ·have t6 : (t.kd == 6) = true := by simpa using h6
       have t6' : (t.kd != 6) = false := by simpa using h6
       by_cases hv0 : t.vs.length = 0
       ·have hR0 : R = false := by
         rw [HR.out]
         refine all_not HTT.out ?_
         rw [List.eq_nil_of_length_eq_zero hv0]; simp
        subst hR0
        go_wp2_with fail
        go_ret
        exact ⟨rfl,vonto HB.out (valloc_bel (Below.refl _ _) _)⟩
       ·have HJ2 := hid (show ∀ k s,k < j + 1 → T.ls[k]? = some s → (decide (s.kd = 6) && !s.vs.isEmpty) = true from fun k s hk hs => by
         by_cases e : k = j
         ·subst e; rw [HTT.out] at hs; cases hs
          rw [decide_eq_true h6,Bool.true_and]
          cases hl : t.vs with
          | nil => simp [hl] at hv0
          | cons a r => rfl
         ·exact HJ.out k s (by omega) hs)
        go_wp2_with fail
        go_roundw
        case rel => exact ⟨j + 1,val_int (by omega),hlt,HJ2,hid (vonto HB.out (valloc_bel (Below.refl _ _) _))⟩
        case measure => simp [intOf]; omega
      ·have t6 : (t.kd == 6) = false := by simpa using h6
       have t6' : (t.kd != 6) = true := by simpa using h6
       have hR0 : R = false := by
        rw [HR.out]
        refine all_not HTT.out ?_
        rw [decide_eq_false h6]; rfl
       subst hR0
       go_wp2_with fail
       go_ret
       exact ⟨rfl,vonto HB.out (valloc_bel (Below.refl _ _) _)⟩
     ·have hR0 : R = true := by
       rw [HR.out,List.all_eq_true]
       intro t ht
       obtain ⟨k,hk⟩ := List.getElem?_of_mem ht
       exact HJ.out k t (by have := lt_of_some hk; omega) hk
      subst hR0
      go_wp2_with fail
      go_ret
      exact ⟨rfl,HB.out⟩
 ·have hf : R = false := by rw [← hR]; unfold lomB; rw [decide_eq_false h5]; rfl
  have t5 : (T.kd == 5) = false := by simpa using h5
  have t5' : (T.kd != 5) = true := by simpa using h5
  subst hf
  clear hR HGD
  go_enter Tryz.func57,Tryz.ntmps57
  go_wp2_with fail
  go_ret
  exact ⟨rfl,hb0 _⟩
end Go.Proofs.YteimbjamnfkapaaGreatDoor
/- Plain mathematics of leaves: where they are, of what form their paths; what stands there; how long their cells are. -/
namespace Go.Proofs.YteimbjamnfkapaaGreatDoor
open Go.RowKit
theorem mem_lfL : ∀ (r : List VT) (i : Nat) (p : List PStep) (z : List PStep × VT),z ∈ lfL r i p → ∃ (j : Nat) (t : VT),r[j]? = some t ∧ z ∈ lfT t (p ++ [lpl (i + j)])
 | [],_,_,_,h => by simp [lfL] at h
 | a :: r,i,p,z,h => by
  rw [lfL,List.mem_append] at h
  rcases h with h | h
  ·exact ⟨0,a,rfl,h⟩
  ·obtain ⟨j,t,h1,h2⟩ := mem_lfL r (i + 1) p z h
   exact ⟨j + 1,t,h1,by rw [show i + (j + 1) = i + 1 + j by omega]; exact h2⟩
theorem mem_lfM : ∀ (r : List VT) (K : List ByteArray) (p : List PStep) (z : List PStep × VT),K.length = r.length → z ∈ lfM r K p → ∃ (j : Nat) (t : VT) (c : ByteArray),r[j]? = some t ∧ K[j]? = some c ∧ z ∈ lfT t (p ++ [lky c])
 | [],_,_,_,_,h => by simp [lfM] at h
 | a :: r,[],p,z,hl,h => by simp at hl
 | a :: r,c :: K,p,z,hl,h => by
  rw [lfM,List.mem_append] at h
  rcases h with h | h
  ·exact ⟨0,a,c,rfl,rfl,h⟩
  ·obtain ⟨j,t,d,h1,h2,h3⟩ := mem_lfM r K p z (by simpa using hl) h
   exact ⟨j + 1,t,d,h1,h2,h3⟩
theorem node_keys {T : VT} (h : plainT T = true) (h6 : T.kd = 6) : keysB T.ks = true := by
 rw [plainT_eq,Bool.and_eq_true,Bool.and_eq_true] at h
 have hn := h.1.1
 unfold nodeB nodeC at hn
 simp only [h6,show ¬ (6 : Int) = 0 by decide,show ¬ (6 : Int) = 1 by decide,show ¬ (6 : Int) = 2 by decide,show ¬ (6 : Int) = 3 by decide,show ¬ (6 : Int) = 4 by decide,show ¬ (6 : Int) = 7 by decide,show ¬ (6 : Int) = 5 by decide,if_false,if_true,Bool.and_eq_true] at hn
 exact hn.2
theorem key_le {T : VT} (h : plainT T = true) (h6 : T.kd = 6) {i : Nat} {c : ByteArray} (hc : T.ks[i]? = some c) : c.size ≤ 4096 := by
 have := keys_at (node_keys h h6) i c hc
 unfold strOkB at this
 simp only [Bool.and_eq_true,decide_eq_true_eq] at this
 exact this.1
structure LfAt (T : VT) (p q : List PStep) (t : VT) (r : List PStep) : Prop where
 e : q = p ++ r
 g : getP T r = some t
 f : ∀ s ∈ r,Frm s ∧ s.key.size ≤ 4096
 h : r.length + 1 ≤ hgT T
 b : t.ls = [] ∧ t.vs = []
 pl : plainT t = true
theorem lf_get : ∀ (N : Nat) {T : VT},szT T ≤ N → plainT T = true → wfT T → szT T ≤ 1000000000 → ∀ (p q : List PStep) (t : VT),(q,t) ∈ lfT T p → ∃ r,LfAt T p q t r
 | 0,T,hN,_,_,_,_,_,_,_ => by have := szT_pos T; omega
 | N + 1,T,hN,hp,hw,hz,p,q,t,h => by
  have hwf := (wfT_eq T).1 hw
  have hh := hg_ls T
  rw [lfT_at] at h
  split at h
  ·rename_i h5
   obtain ⟨j,u,h1,h2⟩ := mem_lfL _ _ _ _ h
   have hs := szT_ls T j u h1
   have hj := lt_of_some h1
   have hll := len_sz T
   obtain ⟨r,hr⟩ := lf_get N (T := u) (by omega) (plain_ls hp h1) ((wfL_get _).1 hwf.2.1 j u h1) (by omega) _ _ _ h2
   have hhu := (hgL_get T.ls _).1 (Nat.le_refl _) j u h1
   have e := hr.e
   rw [Nat.zero_add] at e
   refine ⟨lpl j :: r,by rw [e]; simp,?_,?_,?_,hr.b,hr.pl⟩
   ·simp only [getP]
    rw [show idxT T (lpl j) = some j from idx_pl h5.1 hj,Option.bind_some,show kidT T (lpl j) j = some u by unfold kidT lpl; rw [if_pos rfl]; exact h1]
    exact hr.g
   ·intro s hs
    rcases List.mem_cons.1 hs with rfl | hs
    ·exact ⟨Or.inl ⟨rfl,rfl,by simp [lpl],by simp [lpl]; omega⟩,Nat.zero_le _⟩
    ·exact hr.f s hs
   ·have := hr.h; simp only [List.length_cons]; omega
  ·split at h
   ·rename_i h6
    obtain ⟨j,u,c,h1,hc,h2⟩ := mem_lfM _ _ _ _ hwf.1 h
    have hs := szT_vs T j u h1
    obtain ⟨r,hr⟩ := lf_get N (T := u) (by omega) (plain_vs hp h1) ((wfL_get _).1 hwf.2.2 j u h1) (by omega) _ _ _ h2
    have hhu := (hgL_get T.vs _).1 (Nat.le_refl _) j u h1
    refine ⟨lky c :: r,by rw [hr.e]; simp,?_,?_,?_,hr.b,hr.pl⟩
    ·simp only [getP]
     rw [show idxT T (lky c) = some j from idx_ky h6.1 (plain_keys hp) hc,Option.bind_some,show kidT T (lky c) j = some u by unfold kidT; rw [if_neg (show ¬ (lky c).place = true from Bool.false_ne_true)]; exact h1]
     exact hr.g
    ·intro s hs
     rcases List.mem_cons.1 hs with rfl | hs
     ·exact ⟨Or.inr ⟨rfl,rfl⟩,key_le hp h6.1 hc⟩
     ·exact hr.f s hs
    ·have := hr.h; simp only [List.length_cons]; omega
   ·rename_i h5 h6
    simp only [List.mem_singleton,Prod.mk.injEq] at h
    obtain ⟨rfl,rfl⟩ := h
    exact ⟨[],⟨by simp,rfl,fun s hs => absurd hs List.not_mem_nil,by have := hgT_pos t; simp only [List.length_nil]; omega,leaf_bare hp h5 h6,hp⟩⟩
theorem leaf_cel {t : VT} (hb : t.ls = [] ∧ t.vs = []) (hp : plainT t = true) : celB t = true := by
 have h1 : szT t = 1 := by rw [sz_both,hb.1,hb.2]; simp [szL]
 have h2 : hgT t = 1 := by rw [hg_both,hb.1,hb.2]; simp [hgL]
 unfold celB mayB
 rw [hb.1,hb.2,h1,h2,hp]
 decide
theorem cst_le (l : List UInt8) : (cstL l).length ≤ l.length + 1 := by unfold cstL; split <;> simp
theorem cel_small {t : VT} (hp : plainT t = true) (hn : -9223372036854775808 ≤ t.nm ∧ t.nm < 9223372036854775808) : (cellP t).size ≤ 5000 := by
 unfold cellP
 split
 ·show ((celW t).toArray).size ≤ 5000
  rw [List.size_toArray]
  rw [plainT_eq,Bool.and_eq_true,Bool.and_eq_true] at hp
  have hnode := hp.1.1
  unfold nodeB nodeC at hnode
  have hz := size_list t.st
  unfold celW celS
  by_cases h1 : t.kd = 1
  ·rw [if_pos h1]; split <;> simp
  rw [if_neg h1]
  by_cases h2 : t.kd = 2
  ·rw [if_pos h2]; have := txt_short t.nm hn; omega
  rw [if_neg h2]
  by_cases h3 : t.kd = 3
  ·rw [if_pos h3]
   simp [h3] at hnode
   have := num_len hnode.1.1.2.1
   omega
  rw [if_neg h3]
  by_cases h4 : t.kd = 4
  ·rw [if_pos h4]
   simp [h4] at hnode
   have h5 := teI_size hnode.1.1.2
   have h6 := cst_le t.st.data.toList
   omega
  rw [if_neg h4]
  by_cases h7 : t.kd = 7
  ·rw [if_pos h7]
   simp [h7] at hnode
   have h5 := hnode.1.1.2
   unfold stampB at h5
   simp only [Bool.and_eq_true,decide_eq_true_eq] at h5
   simp only [List.length_cons]
   omega
  rw [if_neg h7]
  split
  ·simp
  ·split <;> simp
 ·exact Nat.zero_le _
end Go.Proofs.YteimbjamnfkapaaGreatDoor
/- flat.Flat: what it says; its memory: the maps' leaves, the rows. -/
namespace Go.Proofs.YteimbjamnfkapaaGreatDoor
open Go.RowKit
def flatX (T : VT) : List (List (List PStep × VT)) := T.ls.map fun t => lfT t []
def flatC (T : VT) : List (List PStep) := colA (flatX T)
def flatN (T : VT) : List ByteArray := (flatC T).map nmP
def flatW (T : VT) : List (List ByteArray) := (flatX T).map fun l => rowM l (flatC T)
def flatL (T : VT) : Bool := (flatN T).any longS || (flatW T).any longR
def flatE (T : VT) : Int := if lomB T = false then 1 else if 512 < T.ls.length then 2 else if 64 < (flatC T).length then 2 else if flatL T = true then 2 else 0
def flatH (T : VT) : List ByteArray := if flatE T = 0 then flatN T else []
def flatR (T : VT) : List (List ByteArray) := if flatE T = 0 then flatW T else []
def FlatPost (T : VT) (w : World) (e : Ending) (w' : World) : Prop := ∃ h r,e = .returned (.tuple #[.agg #[h,r],.int .i64 (flatE T)]) ∧ InS w' (flatH T) h ∧ InRs w' (flatR T) r ∧ Below w.heap.size w w'
theorem ins_nil (w : World) : InS w [] (.slice none 0 0) := ⟨⟨0,0,none⟩,⟨none,0,rfl,Nat.le_refl _,Nat.zero_le _,fun h => absurd h (by simp)⟩,fun i s h => by simp at h⟩
theorem inrs_nil (w : World) : InRs w [] (.slice none 0 0) := ⟨⟨0,0,none⟩,⟨none,0,rfl,Nat.le_refl _,Nat.zero_le _,fun h => absurd h (by simp)⟩,fun i s h => by simp at h⟩
theorem flatpost_no {T : VT} {w w' : World} {e : Ending} {k : Int} (hk : flatE T = k) (h0 : ¬ k = 0) (he : e = .returned (.tuple #[.agg #[.slice none 0 0,.slice none 0 0],.int .i64 k])) (hb : Below w.heap.size w w') : FlatPost T w e w' := by
 refine ⟨.slice none 0 0,.slice none 0 0,by rw [hk]; exact he,?_,?_,hb⟩
 ·unfold flatH; rw [hk,if_neg h0]; exact ins_nil _
 ·unfold flatR; rw [hk,if_neg h0]; exact inrs_nil _
structure MpS (w wr : World) (g n : Nat) (U : List Value) (Es : List (List LE)) : Prop where
 bel : Below w.heap.size w wr
 lo : w.heap.size ≤ g
 own : wr.ownsRow w.heap.size 38 1 (.slice (some ⟨g,0,none⟩) n n) n U
 es : ∀ (i : Nat) (E : List LE),Es[i]? = some E → ∃ u,U[i]? = some u ∧ wr.ownsRow (g + 1) 43 6 u E.length (E.flatMap lcE) ∧ ∀ e ∈ E,wr.ownsRow (g + 1) 78 3 e.u e.p.length (e.p.flatMap sc) ∧ Bare e
theorem MpS.onto {w wr wr' : World} {g n : Nat} {U : List Value} {Es : List (List LE)} (h : MpS w wr g n U Es) (hb : Below wr.heap.size wr wr') : MpS w wr' g n U Es :=
 ⟨vonto h.bel hb,h.lo,ownsRow_below h.own hb,fun i E hE => by
  obtain ⟨u,h1,h2,h3⟩ := h.es i E hE
  exact ⟨u,h1,ownsRow_below h2 hb,fun e he => ⟨ownsRow_below (h3 e he).1 hb,(h3 e he).2⟩⟩⟩
theorem MpS.ulen {w wr : World} {g n : Nat} {U : List Value} {Es : List (List LE)} (h : MpS w wr g n U Es) : U.length = n := by have := h.own.1; omega
theorem MpS.cell {w wr : World} {g n : Nat} {U : List Value} {Es : List (List LE)} (h : MpS w wr g n U Es) {j : Nat} (hj : j < n) : ∃ c,wr.cell? ⟨g,j,none⟩ = some c := by
 have hl := h.ulen
 exact ⟨U[j],by rw [h.own.cellAt j (by omega),List.getElem?_eq_getElem]⟩
theorem MpS.set {w wr : World} {g n : Nat} {U : List Value} {Es : List (List LE)} (h : MpS w wr g n U Es) (hj : Es.length < n) {v : Value} {E : List LE} (hv : wr.ownsRow (g + 1) 43 6 v E.length (E.flatMap lcE)) (hE : ∀ e ∈ E,wr.ownsRow (g + 1) 78 3 e.u e.p.length (e.p.flatMap sc) ∧ Bare e) :
  MpS w (wr.setCell ⟨g,Es.length,none⟩ v) g n (U.set Es.length v) (Es ++ [E]) := by
 have hl := h.ulen
 refine ⟨vset_bel h.bel h.lo,h.lo,(h.own.stored Es.length v).1,fun i E' hE' => ?_⟩
 by_cases hi : i < Es.length
 ·rw [List.getElem?_append_left hi] at hE'
  obtain ⟨u,h1,h2,h3⟩ := h.es i E' hE'
  exact ⟨u,by rw [List.getElem?_set_ne (by omega)]; exact h1,ownsRow_setCell_below h2 (by show g < g + 1; omega) _,fun e he => ⟨ownsRow_setCell_below (h3 e he).1 (by show g < g + 1; omega) _,(h3 e he).2⟩⟩
 ·rw [List.getElem?_append_right (by omega)] at hE'
  have hi2 : i = Es.length := by
   have := lt_of_some hE'
   simp at this; omega
  subst hi2
  rw [Nat.sub_self] at hE'
  simp at hE'
  subst hE'
  exact ⟨v,by rw [List.getElem?_set_self (by omega)],ownsRow_setCell_below hv (by show g < g + 1; omega) _,fun e he => ⟨ownsRow_setCell_below (hE e he).1 (by show g < g + 1; omega) _,(hE e he).2⟩⟩
theorem MpS.inMs {w wr : World} {g n : Nat} {U : List Value} {Es : List (List LE)} (h : MpS w wr g n U Es) (hn : Es.length = n) (hm : n ≤ 1000000) (hk : ∀ E ∈ Es,∀ e ∈ E,∀ s ∈ e.p,s.key.size ≤ maxLen) : InMs wr (Es.map fun E => E.map LE.pt) (.slice (some ⟨g,0,none⟩) n n) := by
 refine ⟨⟨g,0,none⟩,⟨_,n,by rw [List.length_map,hn],by rw [List.length_map]; omega,by unfold maxLen; omega,fun _ => rfl⟩,fun i l hl => ?_⟩
 rw [List.getElem?_map] at hl
 obtain ⟨E,hE,rfl⟩ := Option.map_eq_some_iff.1 hl
 have hi := lt_of_some hE
 obtain ⟨u,h1,h2,h3⟩ := h.es i E hE
 refine ⟨u,by rw [add_at,h.own.cellAt i (by omega)]; exact h1,inlf_of h2 h3 (hk E (List.mem_of_getElem? hE))⟩
structure RwS (w wr : World) (g n : Nat) (U : List Value) (Ks : List (List ByteArray)) : Prop where
 bel : Below w.heap.size w wr
 lo : w.heap.size ≤ g
 own : wr.ownsRow w.heap.size 22 1 (.slice (some ⟨g,0,none⟩) n n) n U
 es : ∀ (i : Nat) (K : List ByteArray),Ks[i]? = some K → ∃ u,U[i]? = some u ∧ wr.ownsRow (g + 1) 9 1 u K.length (K.map Value.string) ∧ ∀ c ∈ K,c.size ≤ maxLen
theorem RwS.onto {w wr wr' : World} {g n : Nat} {U : List Value} {Ks : List (List ByteArray)} (h : RwS w wr g n U Ks) (hb : Below wr.heap.size wr wr') : RwS w wr' g n U Ks :=
 ⟨vonto h.bel hb,h.lo,ownsRow_below h.own hb,fun i E hE => by
  obtain ⟨u,h1,h2,h3⟩ := h.es i E hE
  exact ⟨u,h1,ownsRow_below h2 hb,h3⟩⟩
theorem RwS.ulen {w wr : World} {g n : Nat} {U : List Value} {Ks : List (List ByteArray)} (h : RwS w wr g n U Ks) : U.length = n := by have := h.own.1; omega
theorem RwS.cell {w wr : World} {g n : Nat} {U : List Value} {Ks : List (List ByteArray)} (h : RwS w wr g n U Ks) {j : Nat} (hj : j < n) : ∃ c,wr.cell? ⟨g,j,none⟩ = some c := by
 have hl := h.ulen
 exact ⟨U[j],by rw [h.own.cellAt j (by omega),List.getElem?_eq_getElem]⟩
theorem RwS.set {w wr : World} {g n : Nat} {U : List Value} {Ks : List (List ByteArray)} (h : RwS w wr g n U Ks) (hj : Ks.length < n) {v : Value} {K : List ByteArray} (hv : wr.ownsRow (g + 1) 9 1 v K.length (K.map Value.string)) (hK : ∀ c ∈ K,c.size ≤ maxLen) :
  RwS w (wr.setCell ⟨g,Ks.length,none⟩ v) g n (U.set Ks.length v) (Ks ++ [K]) := by
 have hl := h.ulen
 refine ⟨vset_bel h.bel h.lo,h.lo,(h.own.stored Ks.length v).1,fun i E' hE' => ?_⟩
 by_cases hi : i < Ks.length
 ·rw [List.getElem?_append_left hi] at hE'
  obtain ⟨u,h1,h2,h3⟩ := h.es i E' hE'
  exact ⟨u,by rw [List.getElem?_set_ne (by omega)]; exact h1,ownsRow_setCell_below h2 (by show g < g + 1; omega) _,h3⟩
 ·rw [List.getElem?_append_right (by omega)] at hE'
  have hi2 : i = Ks.length := by
   have := lt_of_some hE'
   simp at this; omega
  subst hi2
  rw [Nat.sub_self] at hE'
  simp at hE'
  subst hE'
  exact ⟨v,by rw [List.getElem?_set_self (by omega)],ownsRow_setCell_below hv (by show g < g + 1; omega) _,hK⟩
theorem stro_ins {wr : World} {B : Nat} {K : List ByteArray} {v : Value} (h : wr.ownsRow B 9 1 v K.length (K.map Value.string)) (hs : ∀ c ∈ K,c.size ≤ maxLen) : InS wr K v := by
 have hc := h
 rcases hc with ⟨-,⟨rfl,h0⟩ | ⟨g,cap,cur,rfl,-,-,hn,hcm,-,-⟩⟩
 ·have : K = [] := List.eq_nil_of_length_eq_zero h0
  subst this
  exact ins_nil _
 ·refine ⟨⟨g,0,none⟩,⟨_,_,rfl,hn,hcm,fun _ => rfl⟩,fun i c hc => ⟨?_,hs c (List.mem_of_getElem? hc)⟩⟩
  have hi := lt_of_some hc
  rw [add_at,h.cellAt i (by omega),List.getElem?_map,hc]; rfl
theorem RwS.inRs {w wr : World} {g n : Nat} {U : List Value} {Ks : List (List ByteArray)} (h : RwS w wr g n U Ks) (hn : Ks.length = n) (hm : n ≤ 1000000) : InRs wr Ks (.slice (some ⟨g,0,none⟩) n n) := by
 refine ⟨⟨g,0,none⟩,⟨_,n,by rw [hn],by omega,by unfold maxLen; omega,fun _ => rfl⟩,fun i K hK => ?_⟩
 have hi := lt_of_some hK
 obtain ⟨u,h1,h2,h3⟩ := h.es i K hK
 exact ⟨u,by rw [add_at,h.own.cellAt i (by omega)]; exact h1,stro_ins h2 h3⟩
theorem Tryz.madeM (n : Nat) (h : n ≤ 1000001) (w : World) : (Instr.makeSlice 111 (.int .i64 (n : Int)) (.int .i64 (n : Int))).run Tryz.prog w = .ok (.slice (some ⟨w.heap.size,0,none⟩) n n) (w.alloc (.cells (madeCells #[.slice none 0 0] n) 38)) := by
 obtain ⟨i,hi,hz⟩ := Option.map_eq_some_iff.1 (show (Tryz.prog.info? 38).map (fun i => (i.zero,i.size,i.bytes)) = some (some (.slice none 0 0),1,24) by kernel_rfl)
 simp only [Prod.mk.injEq] at hz
 obtain ⟨hz,hs,hb⟩ := hz
 have := run_make (P := Tryz.prog) w 111 38 i _ Tryz.underlying111 hi hz .i64 .i64 n n (by omega) (Int.le_refl _) (by rw [hb]; omega) (by omega)
 rw [hs] at this
 simp only [Int.toNat_natCast,Nat.mul_one] at this
 exact this
theorem Tryz.madeR (n : Nat) (h : n ≤ 1000001) (w : World) : (Instr.makeSlice 23 (.int .i64 (n : Int)) (.int .i64 (n : Int))).run Tryz.prog w = .ok (.slice (some ⟨w.heap.size,0,none⟩) n n) (w.alloc (.cells (madeCells #[.slice none 0 0] n) 22)) := by
 obtain ⟨i,hi,hz⟩ := Option.map_eq_some_iff.1 (show (Tryz.prog.info? 22).map (fun i => (i.zero,i.size,i.bytes)) = some (some (.slice none 0 0),1,24) by kernel_rfl)
 simp only [Prod.mk.injEq] at hz
 obtain ⟨hz,hs,hb⟩ := hz
 have := run_make (P := Tryz.prog) w 23 22 i _ Tryz.underlying23 hi hz .i64 .i64 n n (by omega) (Int.le_refl _) (by rw [hb]; omega) (by omega)
 rw [hs] at this
 simp only [Int.toNat_natCast,Nat.mul_one] at this
 exact this
theorem MpS.new (w wr : World) (hb : Below w.heap.size w wr) (n : Nat) (h : n ≤ 1000001) : MpS w (wr.alloc (.cells (madeCells #[.slice none 0 0] n) 38)) wr.heap.size n (List.replicate n (.slice none 0 0)) [] := by
 have hs := hb.size
 refine ⟨valloc_bel hb _,hs,?_,fun i E h => by simp at h⟩
 have := World.ownsRow_lit (e := 38) (size := 1) (base := w.heap.size) wr (madeCells #[.slice none 0 0] n) n hs (by unfold maxLen; omega) (by rw [size_madeCells]; omega)
 rw [toList_madeCells_one] at this
 exact this
theorem RwS.new (w wr : World) (hb : Below w.heap.size w wr) (n : Nat) (h : n ≤ 1000001) : RwS w (wr.alloc (.cells (madeCells #[.slice none 0 0] n) 22)) wr.heap.size n (List.replicate n (.slice none 0 0)) [] := by
 have hs := hb.size
 refine ⟨valloc_bel hb _,hs,?_,fun i E h => by simp at h⟩
 have := World.ownsRow_lit (e := 22) (size := 1) (base := w.heap.size) wr (madeCells #[.slice none 0 0] n) n hs (by unfold maxLen; omega) (by rw [size_madeCells]; omega)
 rw [toList_madeCells_one] at this
 exact this
theorem lf_good {T t : VT} (hT : mayB 0 1 T = true) (hw : wfT T) {i : Nat} (hi : T.ls[i]? = some t) : ∀ z ∈ lfT t [],∃ r,LfAt t [] z.1 z.2 r ∧ FrmP z.1 ∧ (∀ s ∈ z.1,Small s) ∧ z.1.length ≤ 100 ∧ (∀ s ∈ z.1,s.key.size ≤ maxLen) := by
 intro z hz
 obtain ⟨h1,h2,h3⟩ := good_sz hT
 have hsz := szT_ls T i t hi
 have hh := hg_ls T
 have hht := (hgL_get T.ls _).1 (Nat.le_refl _) i t hi
 obtain ⟨r,hr⟩ := lf_get (szT t) (T := t) (Nat.le_refl _) (plain_ls h3 hi) ((wfL_get _).1 ((wfT_eq T).1 hw).2.1 i t hi) (by omega) [] z.1 z.2 hz
 have e : z.1 = r := by rw [hr.e]; rfl
 have hl := hr.h
 refine ⟨r,hr,?_,?_,by rw [e]; omega,?_⟩
 ·rw [e]; exact fun s hs => (hr.f s hs).1
 ·rw [e]
  intro s hs
  obtain ⟨a1,a2⟩ := hr.f s hs
  refine ⟨by omega,?_⟩
  rcases a1 with ⟨-,-,b1,b2⟩ | ⟨-,b1⟩
  ·omega
  ·omega
 ·rw [e]; exact fun s hs => by have := (hr.f s hs).2; unfold maxLen; omega
end Go.Proofs.YteimbjamnfkapaaGreatDoor
/- flat.Flat, walked: what is no list of maps; too many maps; and the rest. -/
namespace Go.Proofs.YteimbjamnfkapaaGreatDoor
open Go.RowKit
theorem pos_in {C : List (List PStep)} {p : List PStep} (h : Good3 C) (hp : p ∈ C) : C[posC C p]? = some p := by
 obtain ⟨i,hi⟩ := List.getElem?_of_mem hp
 have hil := lt_of_some hi
 rcases Nat.lt_trichotomy i (posC C p) with h1 | h1 | h1
 ·have := posC_lt C p i p h1 hi
  rw [cp_refl] at this; omega
 ·rw [← h1]; exact hi
 ·exfalso
  have hl : posC C p < C.length := by omega
  obtain ⟨_,rfl⟩ := List.getElem?_eq_some_iff.1 hi
  have h2 := (List.pairwise_iff_getElem.1 h.s) _ _ hl hil h1
  have h3 := posC_ge C _ _ (List.getElem?_eq_getElem hl)
  omega
theorem lom_parts {T : VT} (h : lomB T = true) : T.kd = 5 ∧ mayB 0 1 T = true ∧ ∀ t ∈ T.ls,t.kd = 6 ∧ 0 < t.vs.length := by
 unfold lomB at h
 simp only [Bool.and_eq_true,decide_eq_true_eq,List.all_eq_true] at h
 obtain ⟨⟨⟨h1,-⟩,h2⟩,h3⟩ := h
 refine ⟨h1,h2,fun t ht => ⟨(h3 t ht).1,?_⟩⟩
 have := (h3 t ht).2
 cases hv : t.vs with
 | nil => rw [hv] at this; cases this
 | cons a r => simp
set_option maxRecDepth 100000 in
set_option maxHeartbeats 4000000 in
theorem flat_no (T : VT) (x y : Value) (w : World) (hT : HV w T x y) (hg : Glob w) (hl : lomB T = false) :
  Calls Tryz.prog 24 #[vv T x y] w (FlatPost T w) := by
 have HE := hid (show flatE T = 1 by unfold flatE; rw [if_pos hl])
 have HLM := hid (fun (X : World) (hX : Below w.heap.size w X) => lom_any T x y X (hT.onto hX) (hg.on hX))
 rw [hl] at HLM
 obtain ⟨o1,n1,c1,o2,n2,c2,rfl,rfl⟩ := hv_slices hT
 simp only [vv] at HLM ⊢
 clear hT hg hl
 go_enter Tryz.func24,Tryz.ntmps24
 go_wp2_with fail
 go_at_call 57
 refine (HLM.out _ (valloc_bel (valloc_bel (Below.refl _ _) _) _)).mono ?_
 rintro e w2 ⟨rfl,hb2⟩
 have R0 : Hid (Row w2 (w.heap.size + 1) 34 2) := hid (by have := box_row hb2; rwa [World.size_alloc] at this)
 have HB2 := hid (vonto (valloc_bel (valloc_bel (Below.refl w.heap.size w) _) _) hb2)
 clear hb2 HLM
 obtain ⟨u0,e0⟩ := R0.out.cell (o := 0) (by decide)
 obtain ⟨u1,e1⟩ := R0.out.cell (o := 1) (by decide)
 have z0 := R0.out.frozen
 go_wp2_with fail
 refine bodyPost_ret (v := .tuple #[.agg #[.slice none 0 0,.slice none 0 0],.int .i64 1]) (by simp [results,Tryz.results24,go_sem,e0,e1]) rfl (flatpost_no HE.out (by decide) rfl ?_)
 repeat (first | exact HB2.out | (refine vset_bel ?_ (by simp)))
set_option maxRecDepth 100000 in
set_option maxHeartbeats 4000000 in
theorem flat_many (T : VT) (x y : Value) (w : World) (hT : HV w T x y) (hg : Glob w) (hl : lomB T = true) (h512 : 512 < T.ls.length) :
  Calls Tryz.prog 24 #[vv T x y] w (FlatPost T w) := by
 have HE := hid (show flatE T = 2 by unfold flatE; rw [if_neg (by rw [hl]; decide),if_pos h512])
 have HLM := hid (fun (X : World) (hX : Below w.heap.size w X) => lom_any T x y X (hT.onto hX) (hg.on hX))
 rw [hl] at HLM
 obtain ⟨al,bl,f,g,p,q,oL,oM,cL,cM,rfl,rfl,-,-,hL3,hM3,hK,-,hlL,hlM,kL,kK,kM,rL,rM,-,-⟩ := hT.parts
 have h512' : ((512 : Int) < (T.ls.length : Int)) := by omega
 simp only [vv] at HLM ⊢
 clear hT hg hl hL3 hM3 kL kK kM rL rM hK
 go_enter Tryz.func24,Tryz.ntmps24
 go_wp2_with fail
 go_at_call 57
 refine (HLM.out _ (valloc_bel (valloc_bel (Below.refl _ _) _) _)).mono ?_
 rintro e w2 ⟨rfl,hb2⟩
 have R0 : Hid (Row w2 (w.heap.size + 1) 34 2) := hid (by have := box_row hb2; rwa [World.size_alloc] at this)
 have HB2 := hid (vonto (valloc_bel (valloc_bel (Below.refl w.heap.size w) _) _) hb2)
 have z3 : w2.cell? ⟨w.heap.size,3,none⟩ = some (.slice oL T.ls.length cL) := keepCell hb2 (keepCell (valloc_bel (Below.refl _ _) _) (by simp))
 clear hb2 HLM
 obtain ⟨u0,e0⟩ := R0.out.cell (o := 0) (by decide)
 obtain ⟨u1,e1⟩ := R0.out.cell (o := 1) (by decide)
 have z0 := R0.out.frozen
 go_wp2_with fail
 refine bodyPost_ret (v := .tuple #[.agg #[.slice none 0 0,.slice none 0 0],.int .i64 2]) (by simp [results,Tryz.results24,go_sem,e0,e1]) rfl (flatpost_no HE.out (by decide) rfl ?_)
 repeat (first | exact HB2.out | (refine vset_bel ?_ (by simp)))
end Go.Proofs.YteimbjamnfkapaaGreatDoor
