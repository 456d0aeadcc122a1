import Derived.Test.YteimbjamnfkapaaGreatDoorLLoF
/- loss: what becomes of a map. -/
namespace Go.Proofs.YteimbjamnfkapaaGreatDoor
open Go.RowKit
def dropF (f : Int) (t : VT) : Bool := decide (t.kd = 0) && !sayF f t
def kpV (D : VT → Bool) (EF : VT → VT) : List VT → List VT
 | [] => []
 | t :: r => if D t = true then kpV D EF r else EF t :: kpV D EF r
def kpK (D : VT → Bool) : List VT → List ByteArray → List ByteArray
 | [],_ => []
 | t :: r,K => if D t = true then kpK D r K.tail else K.headD ⟨#[]⟩ :: kpK D r K.tail
def ntM (D : VT → Bool) (EN : VT → List PStep → List LN) : List VT → List ByteArray → List PStep → List LN
 | [],_,_ => []
 | t :: r,K,p => (if D t = true then [(p ++ [lky (K.headD ⟨#[]⟩)],3)] else EN t (p ++ [lky (K.headD ⟨#[]⟩)])) ++ ntM D EN r K.tail p
theorem kpV_snoc (D : VT → Bool) (EF : VT → VT) (t : VT) : ∀ A : List VT,kpV D EF (A ++ [t]) = kpV D EF A ++ (if D t = true then [] else [EF t])
 | [] => by simp only [kpV,List.nil_append]
 | a :: A => by
  simp only [kpV,List.cons_append,kpV_snoc D EF t A]
  split <;> simp
theorem kpK_snoc (D : VT → Bool) (t : VT) (c : ByteArray) : ∀ (A : List VT) (K : List ByteArray),K[A.length]? = some c → kpK D (A ++ [t]) K = kpK D A K ++ (if D t = true then [] else [c])
 | [],K,h => by
  cases K with
  | nil => simp at h
  | cons d K => simp at h; subst h; simp [kpK]
 | a :: A,K,h => by
  have h2 : K.tail[A.length]? = some c := by cases K with | nil => simp at h | cons d K => simpa using h
  simp only [kpK,List.cons_append,kpK_snoc D t c A K.tail h2]
  split <;> simp
theorem ntM_snoc (D : VT → Bool) (EN : VT → List PStep → List LN) (t : VT) (p : List PStep) (c : ByteArray) : ∀ (A : List VT) (K : List ByteArray),K[A.length]? = some c → ntM D EN (A ++ [t]) K p = ntM D EN A K p ++ (if D t = true then [(p ++ [lky c],3)] else EN t (p ++ [lky c]))
 | [],K,h => by
  cases K with
  | nil => simp at h
  | cons d K => simp at h; subst h; simp [ntM]
 | a :: A,K,h => by
  have h2 : K.tail[A.length]? = some c := by cases K with | nil => simp at h | cons d K => simpa using h
  simp only [ntM,List.cons_append,ntM_snoc D EN t p c A K.tail h2,List.append_assoc]
theorem ntM_len (D : VT → Bool) (EN : VT → List PStep → List LN) (hEN : ∀ t p,(EN t p).length ≤ szT t) : ∀ (L : List VT) (K : List ByteArray) (p : List PStep),(ntM D EN L K p).length ≤ szL L
 | [],_,_ => Nat.zero_le _
 | t :: r,K,p => by
  have h1 := hEN t (p ++ [lky (K.headD ⟨#[]⟩)])
  have h2 := ntM_len D EN hEN r K.tail p
  have h3 := szT_pos t
  simp only [ntM,szL,List.length_append]
  split
  ·simp only [List.length_cons,List.length_nil]; omega
  ·omega
def bcM (lv : Value) : Array Value := #[.int .i64 6,.int .i64 0,.string ⟨#[]⟩,.slice none 0 0,lv]
theorem Tryz.infoPairL : (Tryz.prog.info? 60).map (fun i => (i.zero,i.size,i.bytes)) = some (some (.agg #[.string ⟨#[]⟩,.int .i64 0,.int .i64 0,.string ⟨#[]⟩,.slice none 0 0,.slice none 0 0]),6,96) := by kernel_rfl
theorem small_lky {c : ByteArray} (h : c.size ≤ 1000000) : Small (lky c) := ⟨h,by show -9223372036854775808 ≤ (0 : Int); decide,by show (0 : Int) ≤ 9223372036854775807; decide⟩
set_option maxRecDepth 100000 in
set_option maxHeartbeats 8000000 in
theorem lpairs_any {W : World} {b : Nat} {f : Int} {nv ev : Value} {now : List PStep} {E : List LN} {w : World} (EF : VT → VT) (EN : VT → List PStep → List LN) (hEN : ∀ t p,(EN t p).length ≤ szT t) (T : VT) (x y : Value) (hT : HV W T x y) (hEl : ∀ t ∈ T.vs,ElOk W b f 115 EF EN t) (hg : GlobL W) (h : Fk W b f nv ev now E w) (hk : ∀ s ∈ now,Small s) (hks : ∀ c ∈ T.ks,c.size ≤ 1000000) (hn : now.length + szT T ≤ 10000) (hE : E.length + szT T ≤ 1000000) (hz : szT T ≤ 1000000) :
  Calls Tryz.prog 167 #[.pointer (some ⟨b,0,none⟩),vv T x y] w (FitP W b f nv ev w now (E ++ ntM (dropF f) EN T.vs T.ks now) (.mk 6 0 ⟨#[]⟩ [] (kpK (dropF f) T.vs T.ks) (kpV (dropF f) EF T.vs))) := by
 have HWL := hid h.bel.size
 obtain ⟨al,bl,fl,gl,p,q,oL,oM,cL,cM,rfl,rfl,-,-,-,hM3,hKV,-,-,hlM,-,kK,kM,-,rM,-,-⟩ := hT.parts
 have HkK := hid kK; have HkM := hid kM; have HrM := hid rM
 have hlen := len_sz T
 have HEL := hid hEl; have HK := hid hk; have HEN := hid hEN; have HG := hid hg; have HKS := hid hks; have HKV := hid hKV
 obtain ⟨i1,hi',hz0',hz1',hz2'⟩ := info_parts Tryz.infoPairL
 obtain ⟨wA,hA⟩ : ∃ X,X = ((w.alloc (.cells #[.int .i64 T.kd,.int .i64 T.nm,.string T.st,.slice oL T.ls.length cL,.slice oM T.vs.length cM] 29)).alloc (.cells #[.int .i64 0,.int .i64 0,.string ⟨#[]⟩,.slice none 0 0,.slice none 0 0] 29)) := ⟨_,rfl⟩
 have hAs : wA.heap.size = w.heap.size + 2 := by rw [hA]; simp
 have hAb : Below w.heap.size w wA := by rw [hA]; exact valloc_bel (valloc_bel (Below.refl _ _) _) _
 have hb1 : Below wA.heap.size wA (wA.alloc (.cells #[.int .i64 6,.int .i64 0,.string ⟨#[]⟩,.slice none 0 0,.slice none 0 0] 29)) := valloc_bel (Below.refl _ _) _
 have hb0 : Below w.heap.size w (wA.alloc (.cells #[.int .i64 6,.int .i64 0,.string ⟨#[]⟩,.slice none 0 0,.slice none 0 0] 29)) := vonto hAb hb1
 have hx1 : (wA.alloc (.cells #[.int .i64 6,.int .i64 0,.string ⟨#[]⟩,.slice none 0 0,.slice none 0 0] 29)).heap[w.heap.size + 2]? = some (.cells #[.int .i64 6,.int .i64 0,.string ⟨#[]⟩,.slice none 0 0,.slice none 0 0] 29) := by rw [← hAs]; simp only [World.alloc,Array.getElem?_push_size]
 have p3 : (wA.alloc (.cells #[.int .i64 6,.int .i64 0,.string ⟨#[]⟩,.slice none 0 0,.slice none 0 0] 29)).cell? ⟨w.heap.size,4,none⟩ = some (.slice oM T.vs.length cM) := keepCell hb1 (by
  rw [hA]
  exact keepCell (valloc_bel (Below.refl _ _) _) (tpbox w _ _ _ _ _).2.2.2.2)
 have HZ0 := hid (show Z5 (wA.alloc (.cells #[.int .i64 6,.int .i64 0,.string ⟨#[]⟩,.slice none 0 0,.slice none 0 0] 29)) (w.heap.size + 1) by
  have h1 : Z5 wA (w.heap.size + 1) := by
   have := z5_new (w.alloc (.cells #[.int .i64 T.kd,.int .i64 T.nm,.string T.st,.slice oL T.ls.length cL,.slice oM T.vs.length cM] 29))
   rw [hA]; simpa using this
  exact h1.onto hb1)
 have sxf : ∀ {k : Nat},w.heap.size ≤ k → k < w.heap.size + 3 → Sx b nv ev (wA.alloc (.cells #[.int .i64 6,.int .i64 0,.string ⟨#[]⟩,.slice none 0 0,.slice none 0 0] 29)) k := fun {k} h1 h2 => h.fresh h1 (by rw [World.size_alloc]; omega)
 have HR0 := hid (sxf (k := w.heap.size + 1) (by omega) (by omega))
 have HM0 := hid (show Mk W wA b f nv ev nv ev now (E ++ ntM (dropF f) EN (T.vs.take 0) T.ks now) (w.heap.size + 2) bcM 60 6 0 [] (.slice none 0 0) [] (wA.alloc (.cells #[.int .i64 6,.int .i64 0,.string ⟨#[]⟩,.slice none 0 0,.slice none 0 0] 29)) from
  ⟨by simpa [ntM] using h.onto hb0,Mv.of hb1,⟨hx1,World.ownsRow_nil _ _ _ _,(fun a ha => by cases ha),sxf (by omega) (by omega),by omega,(fun q hq => by cases hq)⟩,by have := HWL.out; omega⟩)
 have HMA := hid (Mv.of (b := b) (nv := nv) (ev := ev) hAb)
 have HA := hid hA
 clear kK kM rM hEl hk hEN hT hb0 hb1 hx1 sxf h hAb hA hg hks
 simp only [vv]
 go_enter Tryz.func167,Tryz.ntmps167
 go_upto_region 2 with fail
 refine cewp_gen ?_
 intro W0 hW
 replace hW : W0 = (wA.alloc (.cells #[.int .i64 6,.int .i64 0,.string ⟨#[]⟩,.slice none 0 0,.slice none 0 0] 29)) := by rw [HA.out]; exact hW
 rw [← hW] at HM0 HZ0 HR0 p3
 clear hW HA
 go_wp2_with fail
 go_loopw [12] (fun i wr => ∃ (j n : Nat) (nv2 ev2 lv : Value) (A : List (ByteArray × VT × Value × Value)),i = .int .i64 j ∧ j ≤ T.vs.length ∧ n ≤ j ∧ Hid (A.map (·.1) = kpK (dropF f) (T.vs.take j) T.ks) ∧ Hid (A.map (·.2.1) = kpV (dropF f) EF (T.vs.take j)) ∧ Hid (A.length = n) ∧ Hid (∀ a ∈ A,a.1.size ≤ maxLen) ∧ Hid (Mk W wA b f nv ev nv2 ev2 now (E ++ ntM (dropF f) EN (T.vs.take j) T.ks now) (w.heap.size + 2) bcM 60 6 n (A.flatMap pc) lv (A.map (·.2)) wr) ∧ Hid (Z5 wr (w.heap.size + 1)) ∧ Hid (Sx b nv2 ev2 wr (w.heap.size + 1))) (fun i _ => T.vs.length - (intOf i).toNat)
 case atStart => exact ⟨0,0,nv,ev,_,[],rfl,Nat.zero_le _,Nat.le_refl _,hid (by simp [kpK]),hid (by simp [kpV]),hid rfl,hid (fun a ha => by cases ha),HM0,HZ0,HR0⟩
 case round =>
  obtain ⟨j,n,nv2,ev2,lv,A,rfl,hj,hnj,HAK,HAM,HAL,HAS,HS,HZ,HR⟩ := hrel
  by_cases hlt : j < T.vs.length
  ·obtain ⟨t,ht⟩ : ∃ t,T.vs[j]? = some t := ⟨T.vs[j],List.getElem?_eq_getElem hlt⟩
   obtain ⟨c,hc⟩ : ∃ c,T.ks[j]? = some c := ⟨T.ks[j]'(by rw [HKV.out]; exact hlt),List.getElem?_eq_getElem _⟩
   obtain rfl := hM3 (by omega)
   have hnode := (HkM.out j t ht).onto HS.out.fk.bel
   simp only [Node,nx] at hnode
   obtain ⟨d0,d1,d2,d3,d4⟩ := hnode
   have k0 := keepCell HS.out.fk.bel (HkK.out j c hc).1
   have hcs := HKS.out c (List.mem_of_getElem? hc)
   have hvt := HrM.out j t ht
   obtain ⟨o1,n1,c1,o2,n2,c2,hf,hg⟩ := hv_slices hvt
   rw [hf,hg] at hvt
   rw [hf] at d3
   rw [hg] at d4
   have hsm := szT_vs T j t ht
   have ha1 := ntM_len (dropF f) EN HEN.out (T.vs.take j) T.ks now
   have ha2 := szL_take_succ T.vs j t ht
   have ha3 := szL_take_le T.vs (j + 1)
   have hszl : szL T.vs ≤ szT T := by cases T with | mk k n s L K V => simp only [szT,VT.vs]; omega
   have hcl : T.ks[(T.vs.take j).length]? = some c := by rw [List.length_take,Nat.min_eq_left hj]; exact hc
   have htk : T.vs.take (j + 1) = T.vs.take j ++ [t] := by rw [List.take_add_one,ht]; rfl
   have HSN := hid (show ntM (dropF f) EN (T.vs.take (j + 1)) T.ks now = ntM (dropF f) EN (T.vs.take j) T.ks now ++ (if dropF f t = true then [(now ++ [lky c],3)] else EN t (now ++ [lky c])) by rw [htk]; exact ntM_snoc _ _ _ _ _ _ _ hcl)
   have HAN := hid (show kpV (dropF f) EF (T.vs.take (j + 1)) = kpV (dropF f) EF (T.vs.take j) ++ (if dropF f t = true then [] else [EF t]) by rw [htk]; exact kpV_snoc _ _ _ _)
   have HKN := hid (show kpK (dropF f) (T.vs.take (j + 1)) T.ks = kpK (dropF f) (T.vs.take j) T.ks ++ (if dropF f t = true then [] else [c]) by rw [htk]; exact kpK_snoc _ _ _ _ _ hcl)
   obtain ⟨ol,cl,rfl⟩ := own_slice HS.out.ob.row
   have hbE : Below wr.heap.size wr (wr.alloc (.cells #[.string c,.int .i64 t.kd,.int .i64 t.nm,.string t.st,.slice o1 n1 c1,.slice o2 n2 c2] 60)) := valloc_bel (Below.refl _ _) _
   have hbc := new_cells wr [.string c,.int .i64 t.kd,.int .i64 t.nm,.string t.st,.slice o1 n1 c1,.slice o2 n2 c2] 60
   have b0 := hbc 0 _ rfl
   have b1 := hbc 1 _ rfl
   have b2 := hbc 2 _ rfl
   have b3 := hbc 3 _ rfl
   have b4 := hbc 4 _ rfl
   have b5 := hbc 5 _ rfl
   rw [add_at] at b0 b1 b2 b3 b4 b5
   have HS1 := hid (HS.out.onto hbE)
   have HZ1 := hid (HZ.out.onto hbE)
   have HR1 := hid ((Mv.of hbE).sx HR.out)
   have HXE := hid (show Sx b nv2 ev2 (wr.alloc (.cells #[.string c,.int .i64 t.kd,.int .i64 t.nm,.string t.st,.slice o1 n1 c1,.slice o2 n2 c2] 60)) wr.heap.size from HS.out.fk.fresh (Nat.le_refl _) (by simp))
   have hobs : w.heap.size + 2 < wr.heap.size := HS.out.ob.sx.1
   have CE := hid (fenter_any (W := W) (lky c) HS1.out.fk (by omega))
   have hsk : ∀ s ∈ now ++ [lky c],Small s := fun s hs => by
    rcases List.mem_append.1 hs with hs | hs
    ·exact HK.out s hs
    ·rw [List.mem_singleton.1 hs]; exact small_lky hcs
   have hEb : E.length + (ntM (dropF f) EN (T.vs.take j) T.ks now).length + szT t ≤ 1000000 := by omega
   have CEl := hid (fun (nv3 : Value) (w2 : World) (F : Fk W b f nv3 ev2 (now ++ [lky c]) (E ++ ntM (dropF f) EN (T.vs.take j) T.ks now) w2) => HEL.out t (List.mem_of_getElem? ht) _ _ nv3 ev2 (now ++ [lky c]) _ w2 hvt F hsk (by simp; omega) (by simp; omega))
   have CSa := hid (fun (nv3 : Value) (w2 : World) (F : Fk W b f nv3 ev2 (now ++ [lky c]) (E ++ ntM (dropF f) EN (T.vs.take j) T.ks now) w2) => lsays_any F HG.out t _ _ (hvt.onto F.bel))
   have CNo := hid (fun (nv3 : Value) (w2 : World) (F : Fk W b f nv3 ev2 (now ++ [lky c]) (E ++ ntM (dropF f) EN (T.vs.take j) T.ks now) w2) => fnote_any (W := W) 3 F HG.out.f.2 (by simp; omega) hsk (by simp; have := szT_pos t; omega))
   have hjm : j ≤ 1000000 := by omega
   have HLX := hid (fun (q : Nat) (hq : (Value.slice ol n cl).ownBlock = some q) => (HS.out.ob.row.lt q hq).2)
   have HCS := hid hcs
   simp only [vv,pv,lky] at CE CEl CSa
   clear hf hg hvt ht ha1 ha2 ha3 HS HZ HR hsm hbE hbc hc hcl htk hEb hsk hcs
   go_upto_region 5 with fail
   refine cewp_gen ?_
   intro w1 hW1
   replace hW1 : w1 = (wr.alloc (.cells #[.string c,.int .i64 t.kd,.int .i64 t.nm,.string t.st,.slice o1 n1 c1,.slice o2 n2 c2] 60)) := hW1
   rw [← hW1] at HS1 HZ1 HR1 HXE CE
   replace b0 : w1.cell? ⟨wr.heap.size,0,none⟩ = some (.string c) := by rw [hW1]; exact b0
   replace b1 : w1.cell? ⟨wr.heap.size,1,none⟩ = some (.int .i64 t.kd) := by rw [hW1]; exact b1
   replace b2 : w1.cell? ⟨wr.heap.size,2,none⟩ = some (.int .i64 t.nm) := by rw [hW1]; exact b2
   replace b3 : w1.cell? ⟨wr.heap.size,3,none⟩ = some (.string t.st) := by rw [hW1]; exact b3
   replace b4 : w1.cell? ⟨wr.heap.size,4,none⟩ = some (.slice o1 n1 c1) := by rw [hW1]; exact b4
   replace b5 : w1.cell? ⟨wr.heap.size,5,none⟩ = some (.slice o2 n2 c2) := by rw [hW1]; exact b5
   clear hW1
   go_wp2_with fail
   go_at_call 221
   refine CE.out.mono ?_
   rintro e w2 ⟨rfl,nv3,hf2,hm2⟩
   have HS2 := hid (HS1.out.to hf2 hm2)
   have HZ2 := hid (hm2.z5 HZ1.out HR1.out)
   have HR2 := hid (hm2.sx HR1.out)
   have HXE2 := hid (hm2.sx HXE.out)
   have b0 := hm2.cell HXE.out b0
   have b1 := hm2.cell HXE.out b1
   have b2 := hm2.cell HXE.out b2
   have b3 := hm2.cell HXE.out b3
   have b4 := hm2.cell HXE.out b4
   have b5 := hm2.cell HXE.out b5
   clear hf2 hm2 CE HS1 HZ1 HR1 HXE
   by_cases tk : t.kd = 0
   case neg =>
    obtain ⟨tka,tkb⟩ := ikey t.kd 0 tk
    have HDF := hid (show dropF f t = false by unfold dropF; rw [decide_eq_false tk]; rfl)
    rw [HDF.out,if_neg (show ¬ (false = true) by decide)] at HSN HAN HKN
    clear CSa CNo
    have hbd : Below w2.heap.size w2 w2.drew := (Below.refl _ _).drew
    have C2 := hid (CEl.out nv3 w2.drew (HS2.out.fk.onto hbd))
    obtain ⟨u,hu⟩ : ∃ u,EF t = u := ⟨_,rfl⟩
    rw [hu] at C2
    have c3 : w2.cell? ⟨w.heap.size + 2,4,none⟩ = some (.slice ol n cl) := by rw [cell_of_row w2 _ 4 _ _ _ HS2.out.ob.box]; rfl
    have HU := hid hu
    clear hu CEl
    unfold FitP at C2
    simp only [vv] at C2
    go_wp2_with fail
    have hS0 : w2.drew.cell? ⟨w.heap.size + 2,4,none⟩ = some (.slice ol n cl) ∧ w2.drew.cell? ⟨wr.heap.size,0,none⟩ = some (.string c) ∧ w2.drew.cell? ⟨wr.heap.size,1,none⟩ = some (.int .i64 t.kd) ∧ w2.drew.cell? ⟨wr.heap.size,2,none⟩ = some (.int .i64 t.nm) ∧ w2.drew.cell? ⟨wr.heap.size,3,none⟩ = some (.string t.st) ∧ w2.drew.cell? ⟨wr.heap.size,4,none⟩ = some (.slice o1 n1 c1) ∧ w2.drew.cell? ⟨wr.heap.size,5,none⟩ = some (.slice o2 n2 c2) := ⟨c3,b0,b1,b2,b3,b4,b5⟩
    refine wp_region_ends2 (S := fun X => X.cell? ⟨w.heap.size + 2,4,none⟩ = some (.slice ol n cl) ∧ X.cell? ⟨wr.heap.size,0,none⟩ = some (.string c) ∧ X.cell? ⟨wr.heap.size,1,none⟩ = some (.int .i64 t.kd) ∧ X.cell? ⟨wr.heap.size,2,none⟩ = some (.int .i64 t.nm) ∧ X.cell? ⟨wr.heap.size,3,none⟩ = some (.string t.st) ∧ X.cell? ⟨wr.heap.size,4,none⟩ = some (.slice o1 n1 c1) ∧ X.cell? ⟨wr.heap.size,5,none⟩ = some (.slice o2 n2 c2)) (by simp) (by kernel_rfl) (by kernel_rfl) (by kernel_rfl) (by kernel_rfl) (by kernel_rfl) (by kernel_rfl) ?_
    simp only [List.dropLast,List.getLast_cons_cons,List.getLast_singleton,List.length_cons,List.length_nil]
    refine take_h (i := 0) (v := ?_) rfl (by kernel_rfl) (by kernel_rfl) (by kernel_rfl) (fun _ _ _ h => h) (by rfl) ?_ hS0 ?_
    rotate_left
    ·(intro X hX; obtain ⟨z0,z1,z2,z3,z4,z5,z6⟩ := hX; go_simp; try with_reducible rfl)
    try simp only [Act.put,List.setIfInBounds_toArray,List.set_cons_zero,List.set_cons_succ]
    refine take_h (i := 1) (v := ?_) rfl (by kernel_rfl) (by kernel_rfl) (by kernel_rfl) (fun _ _ _ h => h) (by rfl) ?_ hS0 ?_
    rotate_left
    ·(intro X hX; obtain ⟨z0,z1,z2,z3,z4,z5,z6⟩ := hX; go_simp; try with_reducible rfl)
    try simp only [Act.put,List.setIfInBounds_toArray,List.set_cons_zero,List.set_cons_succ]
    refine take_h (i := 2) (v := ?_) rfl (by kernel_rfl) (by kernel_rfl) (by kernel_rfl) (fun _ _ _ h => h) (by rfl) ?_ hS0 ?_
    rotate_left
    ·(intro X hX; obtain ⟨z0,z1,z2,z3,z4,z5,z6⟩ := hX; go_simp; try with_reducible rfl)
    try simp only [Act.put,List.setIfInBounds_toArray,List.set_cons_zero,List.set_cons_succ]
    refine take_h (i := 3) (v := ?_) rfl (by kernel_rfl) (by kernel_rfl) (by kernel_rfl) (fun _ _ _ h => h) (by rfl) ?_ hS0 ?_
    rotate_left
    ·(intro X hX; obtain ⟨z0,z1,z2,z3,z4,z5,z6⟩ := hX; go_simp; try with_reducible rfl)
    try simp only [Act.put,List.setIfInBounds_toArray,List.set_cons_zero,List.set_cons_succ]
    refine take_h (i := 4) (v := ?_) rfl (by kernel_rfl) (by kernel_rfl) (by kernel_rfl) (fun _ _ _ h => h) (by rfl) ?_ hS0 ?_
    rotate_left
    ·(intro X hX; obtain ⟨z0,z1,z2,z3,z4,z5,z6⟩ := hX; go_simp; try with_reducible rfl)
    try simp only [Act.put,List.setIfInBounds_toArray,List.set_cons_zero,List.set_cons_succ]
    refine take_h (i := 5) (v := ?_) rfl (by kernel_rfl) (by kernel_rfl) (by kernel_rfl) (fun _ _ _ h => h) (by rfl) ?_ hS0 ?_
    rotate_left
    ·(intro X hX; obtain ⟨z0,z1,z2,z3,z4,z5,z6⟩ := hX; go_simp; try with_reducible rfl)
    try simp only [Act.put,List.setIfInBounds_toArray,List.set_cons_zero,List.set_cons_succ]
    refine take_h (i := 6) (v := ?_) rfl (by kernel_rfl) (by kernel_rfl) (by kernel_rfl) (fun _ _ _ h => h) (by rfl) ?_ hS0 ?_
    rotate_left
    ·(intro X hX; obtain ⟨z0,z1,z2,z3,z4,z5,z6⟩ := hX; go_simp; try with_reducible rfl)
    try simp only [Act.put,List.setIfInBounds_toArray,List.set_cons_zero,List.set_cons_succ]
    refine step_h (i := 7) rfl (by kernel_rfl) ?_
    intro KK hKK
    go_simp
    go_at_call 115
    refine C2.out.mono ?_
    rintro e w6 ⟨x6,y6,nv6,ev6,rfl,hs6,hf6,hm6⟩
    obtain ⟨o3,n3,c6,o4,n4,c7,rfl,rfl⟩ := hv_slices hs6.hv
    have hmd : Mv b nv3 ev2 w2 nv6 ev6 w6 := (Mv.of hbd).trans hm6
    have HS6 := hid (HS2.out.to hf6 hmd)
    have HZ6 := hid (hmd.z5 HZ2.out HR2.out)
    have HR6 := hid (hmd.sx HR2.out)
    have HH6 := hid (show HS w6 (fun q => Sx b nv6 ev6 w6 q ∧ q ≠ w.heap.size + 2 ∧ (Value.slice ol n cl).ownBlock ≠ some q ∧ wA.heap.size ≤ q) u (.slice o3 n3 c6) (.slice o4 n4 c7) from
     hs6.onto (fun _ _ => rfl) (fun k hk' => by
      have hk2 : w2.heap.size ≤ k := hk'.2
      have h1 := HS2.out.ob.sx.1
      have h3 := HS2.out.mv.sz
      exact ⟨hk'.1,by omega,fun e => by have := (HS2.out.ob.row.lt k e).2; omega,by omega⟩))
    go_wp2_with fail
    refine hKK.out _ _ ⟨hmd.cell HS2.out.ob.sx c3,hmd.cell HXE2.out b0,hmd.cell HXE2.out b1,hmd.cell HXE2.out b2,hmd.cell HXE2.out b3,hmd.cell HXE2.out b4,hmd.cell HXE2.out b5⟩ (fun hS1 => ?_)
    have HB6 := hid (show w6.cell? ⟨wr.heap.size,0,none⟩ = some (.string c) ∧ w6.cell? ⟨wr.heap.size,1,none⟩ = some (.int .i64 t.kd) ∧ w6.cell? ⟨wr.heap.size,2,none⟩ = some (.int .i64 t.nm) ∧ w6.cell? ⟨wr.heap.size,3,none⟩ = some (.string t.st) ∧ w6.cell? ⟨wr.heap.size,4,none⟩ = some (.slice o1 n1 c1) ∧ w6.cell? ⟨wr.heap.size,5,none⟩ = some (.slice o2 n2 c2) from ⟨hmd.cell HXE2.out b0,hmd.cell HXE2.out b1,hmd.cell HXE2.out b2,hmd.cell HXE2.out b3,hmd.cell HXE2.out b4,hmd.cell HXE2.out b5⟩)
    have HXE6 := hid (hmd.sx HXE2.out)
    clear hKK KK hS0 C2 hs6 hf6 hmd hm6 b0 b1 b2 b3 b4 b5 c3 HZ2 HR2 HXE2 HS2
    try simp only [Act.put,List.setIfInBounds_toArray,List.set_cons_zero,List.set_cons_succ]
    refine take_h (i := 8) (v := ?_) rfl (by kernel_rfl) (by kernel_rfl) (by kernel_rfl) (fun _ _ _ h => h) (by rfl) ?_ hS1 ?_
    rotate_left
    ·(intro X hX; obtain ⟨z0,z1,z2,z3,z4,z5,z6⟩ := hX; go_simp; try with_reducible rfl)
    try simp only [Act.put,List.setIfInBounds_toArray,List.set_cons_zero,List.set_cons_succ]
    refine step_h (i := 9) rfl (by kernel_rfl) ?_
    intro KK hKK
    go_simp
    have hbx : Below w6.heap.size w6 (w6.alloc (.cells #[.string c,.int .i64 u.kd,.int .i64 u.nm,.string u.st,.slice o3 n3 c6,.slice o4 n4 c7] 60)) := valloc_bel (Below.refl _ _) _
    refine hKK.out _ _ ⟨keepCell hbx hS1.1,keepCell hbx hS1.2.1,keepCell hbx hS1.2.2.1,keepCell hbx hS1.2.2.2.1,keepCell hbx hS1.2.2.2.2.1,keepCell hbx hS1.2.2.2.2.2.1,keepCell hbx hS1.2.2.2.2.2.2⟩ (fun hS2 => ?_)
    clear hKK KK hS1
    try simp only [Act.put,List.setIfInBounds_toArray,List.set_cons_zero,List.set_cons_succ]
    refine step_h (i := 10) rfl (by kernel_rfl) ?_
    intro KK hKK
    have hM7 := HS6.out.onto hbx
    have hH7 := HH6.out.onto (S' := fun q => Sx b nv6 ev6 (w6.alloc (.cells #[.string c,.int .i64 u.kd,.int .i64 u.nm,.string u.st,.slice o3 n3 c6,.slice o4 n4 c7] 60)) q ∧ q ≠ w.heap.size + 2 ∧ (Value.slice ol n cl).ownBlock ≠ some q ∧ wA.heap.size ≤ q) (fun k hk => hbx.block k hk.1.1) (fun k hk => ⟨(Mv.of hbx).sx hk.1,hk.2⟩)
    refine step_append_lies _ (by rfl) _ _ _ (by rfl) wA.heap.size 60 i1 (.agg #[.string ⟨#[]⟩,.int .i64 0,.int .i64 0,.string ⟨#[]⟩,.slice none 0 0,.slice none 0 0]) 6 96 Tryz.underlying27 hi' hz0' hz1' hz2' rfl (by decide) _ n _ (by rfl) hM7.ob.row ⟨w6.heap.size,0,none⟩ 1 1 (pc (c,u,.slice o3 n3 c6,.slice o4 n4 c7)) (by rfl) rfl (new_cells w6 _ 60) (by intro u hu; simp [pc] at hu; rcases hu with rfl | rfl | rfl | rfl | rfl | rfl <;> rfl) (by decide) (by unfold maxLen; omega) (by omega) hM7.mv.sz (w6.heap.size + 1) (by simp) ?_
    intro g9 cap9 w9 hown9 hgr9 hat9 hlt9
    have hd := hM7.more (o := 4) (lv' := .slice (some ⟨g9,0,none⟩) (n + 1) cap9) (u,.slice o3 n3 c6,.slice o4 n4 c7) hH7 hown9 hgr9 (fun q hq => by
     rcases hat9 with h | h
     ·left; rw [h]; exact hq
     ·right; rw [World.size_alloc,← h]; simpa [Value.ownBlock] using hq.symm) rfl
    have hor : ∀ q,(Value.slice ol n cl).ownBlock = some q → w.heap.size + 2 ≤ q := fun q hq => by have := (hM7.ob.row.lt q hq).1; omega
    have kp9 : ∀ k,k < w6.heap.size → (Value.slice ol n cl).ownBlock ≠ some k → w9.heap[k]? = w6.heap[k]? := fun k hk e => (hgr9.block k (Nat.lt_of_lt_of_le hk hbx.size) e.symm).trans (hbx.block k hk)
    have hlx : (Value.slice ol n cl).ownBlock ≠ some wr.heap.size := fun e => Nat.lt_irrefl _ (HLX.out _ e)
    have hbo := kp9 (w.heap.size + 2) HS6.out.ob.sx.1 (fun e => (hM7.ob.rx _ e).2 rfl)
    have c93 : w9.cell? ⟨w.heap.size + 2,4,none⟩ = some (.slice ol n cl) := by rw [cell_of_row w9 _ 4 _ _ _ (hbo.trans HS6.out.ob.box)]; rfl
    have f93 : w9.frozen? ⟨w.heap.size + 2,4,none⟩ = false := by simp [World.frozen?,hbo.trans HS6.out.ob.box]
    have hbe := kp9 wr.heap.size HXE6.out.1 hlx
    have cc : ∀ (o : Nat) (v : Value),w6.cell? ⟨wr.heap.size,o,none⟩ = some v → w9.cell? ⟨wr.heap.size,o,none⟩ = some v := fun o v hv => by rw [World.cell?_of_block hbe]; exact hv
    refine hKK.out _ _ ⟨c93,cc _ _ HB6.out.1,cc _ _ HB6.out.2.1,cc _ _ HB6.out.2.2.1,cc _ _ HB6.out.2.2.2.1,cc _ _ HB6.out.2.2.2.2.1,cc _ _ HB6.out.2.2.2.2.2⟩ (fun hS3 => ?_)
    clear hKK KK hS2
    try simp only [Act.put,List.setIfInBounds_toArray,List.set_cons_zero,List.set_cons_succ]
    refine take_h (i := 11) (v := ?_) rfl (by kernel_rfl) (by kernel_rfl) (by kernel_rfl) (fun _ _ _ h => h) (by rfl) ?_ hS3 ?_
    rotate_left
    ·(intro X hX; obtain ⟨z0,z1,z2,z3,z4,z5,z6⟩ := hX; go_simp; try with_reducible rfl)
    try simp only [Act.put,List.setIfInBounds_toArray,List.set_cons_zero,List.set_cons_succ]
    refine wpAnyH_done (by kernel_rfl) ?_ _
    change Oper.wp _ _ _ _ _ _
    have HD := hid hd
    have hbr := kp9 (w.heap.size + 1) HR6.out.1 (fun e => by have := hor _ e; omega)
    have HZ9 := hid (show Z5 (w9.setCell ⟨w.heap.size + 2,4,none⟩ (.slice (some ⟨g9,0,none⟩) (n + 1) cap9)) (w.heap.size + 1) from by
     have e := ((set_grownW w9 (w.heap.size + 2) 4 (.slice (some ⟨g9,0,none⟩) (n + 1) cap9)).block (w.heap.size + 1) (by have := hgr9.size; have := hbx.size; have := HR6.out.1; omega) (fun e => by injection e with e; omega)).trans hbr
     have z := HZ6.out
     refine ⟨⟨by rw [World.cell?_of_block e]; exact z.1.1,by rw [World.cell?_of_block e]; exact z.1.2.1,by rw [World.cell?_of_block e]; exact z.1.2.2.1,by rw [World.cell?_of_block e]; exact z.1.2.2.2.1,by rw [World.cell?_of_block e]; exact z.1.2.2.2.2⟩,fun o => ?_⟩
     have := z.2 o
     simp only [World.frozen?] at this ⊢
     rw [e]; exact this)
    have HR9 := hid (show Sx b nv6 ev6 (w9.setCell ⟨w.heap.size + 2,4,none⟩ (.slice (some ⟨g9,0,none⟩) (n + 1) cap9)) (w.heap.size + 1) from ⟨by rw [World.size_setCell]; have := hgr9.size; have := hbx.size; have := HR6.out.1; omega,HR6.out.2⟩)
    clear hd hgr9 hown9 hS3 hM7 hbx hat9 hlt9 kp9 hbo hbe cc hbr HZ6 HR6 HS6 HH6 hH7 HB6 HXE6
    go_simp
    generalize w9.setCell ⟨w.heap.size + 2,4,none⟩ (.slice (some ⟨g9,0,none⟩) (n + 1) cap9) = w10 at *
    clear c93 f93
    have CL := hid (fleave_any (W := W) HD.out.fk (by omega))
    go_wp2_with fail
    go_at_call 222
    refine CL.out.mono ?_
    rintro e w11 ⟨rfl,nv7,hf7,hm7⟩
    have HS7 := hid (HD.out.to hf7 hm7)
    have HZ7 := hid (hm7.z5 HZ9.out HR9.out)
    have HR7 := hid (hm7.sx HR9.out)
    clear hf7 hm7 CL HD HZ9 HR9
    go_wp2_with fail
    go_roundw
    case rel => exact ⟨j + 1,n + 1,nv7,ev6,_,A ++ [(c,u,.slice o3 n3 c6,.slice o4 n4 c7)],val_int (by omega),hlt,by omega,hid (by rw [List.map_append,HAK.out,HKN.out]; rfl),hid (by rw [List.map_append,HAM.out,HAN.out,HU.out]; rfl),hid (by rw [List.length_append,HAL.out]; rfl),hid (fun a ha => by
     rcases List.mem_append.1 ha with ha | ha
     ·exact HAS.out a ha
     ·rw [List.mem_singleton.1 ha]; show c.size ≤ maxLen; have := HCS.out; unfold maxLen; omega),hid (by rw [HSN.out,← List.append_assoc,List.flatMap_append]; have h := HS7.out; simpa [lky] using h),HZ7,HR7⟩
    case measure => simp [intOf]; omega
   case pos =>
    obtain ⟨R,hR⟩ : ∃ R,sayF f t = R := ⟨_,rfl⟩
    have HDF := hid (show dropF f t = !R by unfold dropF; rw [decide_eq_true tk,hR]; rfl)
    have CS2 := hid (CSa.out nv3 w2 HS2.out.fk)
    rw [hR] at CS2
    rw [tk] at b1 CS2 CEl
    clear hR CSa
    go_wp2_with fail
    go_at_call 223
    refine CS2.out.mono ?_
    rintro e w3 ⟨rfl,hb3⟩
    have HS3 := hid (HS2.out.onto hb3)
    have HZ3 := hid (HZ2.out.onto hb3)
    have HR3 := hid ((Mv.of hb3).sx HR2.out)
    have HXE3 := hid ((Mv.of hb3).sx HXE2.out)
    have b0 := keepCell hb3 b0
    have b1 := keepCell hb3 b1
    have b2 := keepCell hb3 b2
    have b3 := keepCell hb3 b3
    have b4 := keepCell hb3 b4
    have b5 := keepCell hb3 b5
    clear hb3 CS2 HS2 HZ2 HR2 HXE2
    cases R with
    | true =>
     rw [HDF.out,if_neg (show ¬ ((!true) = true) by decide)] at HSN HAN HKN
     clear CNo
     have hbd : Below w3.heap.size w3 w3.drew := (Below.refl _ _).drew
     have C2 := hid (CEl.out nv3 w3.drew (HS3.out.fk.onto hbd))
     obtain ⟨u,hu⟩ : ∃ u,EF t = u := ⟨_,rfl⟩
     rw [hu] at C2
     have c3 : w3.cell? ⟨w.heap.size + 2,4,none⟩ = some (.slice ol n cl) := by rw [cell_of_row w3 _ 4 _ _ _ HS3.out.ob.box]; rfl
     have HU := hid hu
     clear hu CEl
     unfold FitP at C2
     simp only [vv] at C2
     go_wp2_with fail
     have hS0 : w3.drew.cell? ⟨w.heap.size + 2,4,none⟩ = some (.slice ol n cl) ∧ w3.drew.cell? ⟨wr.heap.size,0,none⟩ = some (.string c) ∧ w3.drew.cell? ⟨wr.heap.size,1,none⟩ = some (.int .i64 0) ∧ w3.drew.cell? ⟨wr.heap.size,2,none⟩ = some (.int .i64 t.nm) ∧ w3.drew.cell? ⟨wr.heap.size,3,none⟩ = some (.string t.st) ∧ w3.drew.cell? ⟨wr.heap.size,4,none⟩ = some (.slice o1 n1 c1) ∧ w3.drew.cell? ⟨wr.heap.size,5,none⟩ = some (.slice o2 n2 c2) := ⟨c3,b0,b1,b2,b3,b4,b5⟩
     refine wp_region_ends2 (S := fun X => X.cell? ⟨w.heap.size + 2,4,none⟩ = some (.slice ol n cl) ∧ X.cell? ⟨wr.heap.size,0,none⟩ = some (.string c) ∧ X.cell? ⟨wr.heap.size,1,none⟩ = some (.int .i64 0) ∧ X.cell? ⟨wr.heap.size,2,none⟩ = some (.int .i64 t.nm) ∧ X.cell? ⟨wr.heap.size,3,none⟩ = some (.string t.st) ∧ X.cell? ⟨wr.heap.size,4,none⟩ = some (.slice o1 n1 c1) ∧ X.cell? ⟨wr.heap.size,5,none⟩ = some (.slice o2 n2 c2)) (by simp) (by kernel_rfl) (by kernel_rfl) (by kernel_rfl) (by kernel_rfl) (by kernel_rfl) (by kernel_rfl) ?_
     simp only [List.dropLast,List.getLast_cons_cons,List.getLast_singleton,List.length_cons,List.length_nil]
     refine take_h (i := 0) (v := ?_) rfl (by kernel_rfl) (by kernel_rfl) (by kernel_rfl) (fun _ _ _ h => h) (by rfl) ?_ hS0 ?_
     rotate_left
     ·(intro X hX; obtain ⟨z0,z1,z2,z3,z4,z5,z6⟩ := hX; go_simp; try with_reducible rfl)
     try simp only [Act.put,List.setIfInBounds_toArray,List.set_cons_zero,List.set_cons_succ]
     refine take_h (i := 1) (v := ?_) rfl (by kernel_rfl) (by kernel_rfl) (by kernel_rfl) (fun _ _ _ h => h) (by rfl) ?_ hS0 ?_
     rotate_left
     ·(intro X hX; obtain ⟨z0,z1,z2,z3,z4,z5,z6⟩ := hX; go_simp; try with_reducible rfl)
     try simp only [Act.put,List.setIfInBounds_toArray,List.set_cons_zero,List.set_cons_succ]
     refine take_h (i := 2) (v := ?_) rfl (by kernel_rfl) (by kernel_rfl) (by kernel_rfl) (fun _ _ _ h => h) (by rfl) ?_ hS0 ?_
     rotate_left
     ·(intro X hX; obtain ⟨z0,z1,z2,z3,z4,z5,z6⟩ := hX; go_simp; try with_reducible rfl)
     try simp only [Act.put,List.setIfInBounds_toArray,List.set_cons_zero,List.set_cons_succ]
     refine take_h (i := 3) (v := ?_) rfl (by kernel_rfl) (by kernel_rfl) (by kernel_rfl) (fun _ _ _ h => h) (by rfl) ?_ hS0 ?_
     rotate_left
     ·(intro X hX; obtain ⟨z0,z1,z2,z3,z4,z5,z6⟩ := hX; go_simp; try with_reducible rfl)
     try simp only [Act.put,List.setIfInBounds_toArray,List.set_cons_zero,List.set_cons_succ]
     refine take_h (i := 4) (v := ?_) rfl (by kernel_rfl) (by kernel_rfl) (by kernel_rfl) (fun _ _ _ h => h) (by rfl) ?_ hS0 ?_
     rotate_left
     ·(intro X hX; obtain ⟨z0,z1,z2,z3,z4,z5,z6⟩ := hX; go_simp; try with_reducible rfl)
     try simp only [Act.put,List.setIfInBounds_toArray,List.set_cons_zero,List.set_cons_succ]
     refine take_h (i := 5) (v := ?_) rfl (by kernel_rfl) (by kernel_rfl) (by kernel_rfl) (fun _ _ _ h => h) (by rfl) ?_ hS0 ?_
     rotate_left
     ·(intro X hX; obtain ⟨z0,z1,z2,z3,z4,z5,z6⟩ := hX; go_simp; try with_reducible rfl)
     try simp only [Act.put,List.setIfInBounds_toArray,List.set_cons_zero,List.set_cons_succ]
     refine take_h (i := 6) (v := ?_) rfl (by kernel_rfl) (by kernel_rfl) (by kernel_rfl) (fun _ _ _ h => h) (by rfl) ?_ hS0 ?_
     rotate_left
     ·(intro X hX; obtain ⟨z0,z1,z2,z3,z4,z5,z6⟩ := hX; go_simp; try with_reducible rfl)
     try simp only [Act.put,List.setIfInBounds_toArray,List.set_cons_zero,List.set_cons_succ]
     refine step_h (i := 7) rfl (by kernel_rfl) ?_
     intro KK hKK
     go_simp
     go_at_call 115
     refine C2.out.mono ?_
     rintro e w6 ⟨x6,y6,nv6,ev6,rfl,hs6,hf6,hm6⟩
     obtain ⟨o3,n3,c6,o4,n4,c7,rfl,rfl⟩ := hv_slices hs6.hv
     have hmd : Mv b nv3 ev2 w3 nv6 ev6 w6 := (Mv.of hbd).trans hm6
     have HS6 := hid (HS3.out.to hf6 hmd)
     have HZ6 := hid (hmd.z5 HZ3.out HR3.out)
     have HR6 := hid (hmd.sx HR3.out)
     have HH6 := hid (show HS w6 (fun q => Sx b nv6 ev6 w6 q ∧ q ≠ w.heap.size + 2 ∧ (Value.slice ol n cl).ownBlock ≠ some q ∧ wA.heap.size ≤ q) u (.slice o3 n3 c6) (.slice o4 n4 c7) from
      hs6.onto (fun _ _ => rfl) (fun k hk' => by
       have hk2 : w3.heap.size ≤ k := hk'.2
       have h1 := HS3.out.ob.sx.1
       have h3 := HS3.out.mv.sz
       exact ⟨hk'.1,by omega,fun e => by have := (HS3.out.ob.row.lt k e).2; omega,by omega⟩))
     go_wp2_with fail
     refine hKK.out _ _ ⟨hmd.cell HS3.out.ob.sx c3,hmd.cell HXE3.out b0,hmd.cell HXE3.out b1,hmd.cell HXE3.out b2,hmd.cell HXE3.out b3,hmd.cell HXE3.out b4,hmd.cell HXE3.out b5⟩ (fun hS1 => ?_)
     have HB6 := hid (show w6.cell? ⟨wr.heap.size,0,none⟩ = some (.string c) ∧ w6.cell? ⟨wr.heap.size,1,none⟩ = some (.int .i64 0) ∧ w6.cell? ⟨wr.heap.size,2,none⟩ = some (.int .i64 t.nm) ∧ w6.cell? ⟨wr.heap.size,3,none⟩ = some (.string t.st) ∧ w6.cell? ⟨wr.heap.size,4,none⟩ = some (.slice o1 n1 c1) ∧ w6.cell? ⟨wr.heap.size,5,none⟩ = some (.slice o2 n2 c2) from ⟨hmd.cell HXE3.out b0,hmd.cell HXE3.out b1,hmd.cell HXE3.out b2,hmd.cell HXE3.out b3,hmd.cell HXE3.out b4,hmd.cell HXE3.out b5⟩)
     have HXE6 := hid (hmd.sx HXE3.out)
     clear hKK KK hS0 C2 hs6 hf6 hmd hm6 b0 b1 b2 b3 b4 b5 c3 HZ3 HR3 HXE3 HS3
     try simp only [Act.put,List.setIfInBounds_toArray,List.set_cons_zero,List.set_cons_succ]
     refine take_h (i := 8) (v := ?_) rfl (by kernel_rfl) (by kernel_rfl) (by kernel_rfl) (fun _ _ _ h => h) (by rfl) ?_ hS1 ?_
     rotate_left
     ·(intro X hX; obtain ⟨z0,z1,z2,z3,z4,z5,z6⟩ := hX; go_simp; try with_reducible rfl)
     try simp only [Act.put,List.setIfInBounds_toArray,List.set_cons_zero,List.set_cons_succ]
     refine step_h (i := 9) rfl (by kernel_rfl) ?_
     intro KK hKK
     go_simp
     have hbx : Below w6.heap.size w6 (w6.alloc (.cells #[.string c,.int .i64 u.kd,.int .i64 u.nm,.string u.st,.slice o3 n3 c6,.slice o4 n4 c7] 60)) := valloc_bel (Below.refl _ _) _
     refine hKK.out _ _ ⟨keepCell hbx hS1.1,keepCell hbx hS1.2.1,keepCell hbx hS1.2.2.1,keepCell hbx hS1.2.2.2.1,keepCell hbx hS1.2.2.2.2.1,keepCell hbx hS1.2.2.2.2.2.1,keepCell hbx hS1.2.2.2.2.2.2⟩ (fun hS2 => ?_)
     clear hKK KK hS1
     try simp only [Act.put,List.setIfInBounds_toArray,List.set_cons_zero,List.set_cons_succ]
     refine step_h (i := 10) rfl (by kernel_rfl) ?_
     intro KK hKK
     have hM7 := HS6.out.onto hbx
     have hH7 := HH6.out.onto (S' := fun q => Sx b nv6 ev6 (w6.alloc (.cells #[.string c,.int .i64 u.kd,.int .i64 u.nm,.string u.st,.slice o3 n3 c6,.slice o4 n4 c7] 60)) q ∧ q ≠ w.heap.size + 2 ∧ (Value.slice ol n cl).ownBlock ≠ some q ∧ wA.heap.size ≤ q) (fun k hk => hbx.block k hk.1.1) (fun k hk => ⟨(Mv.of hbx).sx hk.1,hk.2⟩)
     refine step_append_lies _ (by rfl) _ _ _ (by rfl) wA.heap.size 60 i1 (.agg #[.string ⟨#[]⟩,.int .i64 0,.int .i64 0,.string ⟨#[]⟩,.slice none 0 0,.slice none 0 0]) 6 96 Tryz.underlying27 hi' hz0' hz1' hz2' rfl (by decide) _ n _ (by rfl) hM7.ob.row ⟨w6.heap.size,0,none⟩ 1 1 (pc (c,u,.slice o3 n3 c6,.slice o4 n4 c7)) (by rfl) rfl (new_cells w6 _ 60) (by intro u hu; simp [pc] at hu; rcases hu with rfl | rfl | rfl | rfl | rfl | rfl <;> rfl) (by decide) (by unfold maxLen; omega) (by omega) hM7.mv.sz (w6.heap.size + 1) (by simp) ?_
     intro g9 cap9 w9 hown9 hgr9 hat9 hlt9
     have hd := hM7.more (o := 4) (lv' := .slice (some ⟨g9,0,none⟩) (n + 1) cap9) (u,.slice o3 n3 c6,.slice o4 n4 c7) hH7 hown9 hgr9 (fun q hq => by
      rcases hat9 with h | h
      ·left; rw [h]; exact hq
      ·right; rw [World.size_alloc,← h]; simpa [Value.ownBlock] using hq.symm) rfl
     have hor : ∀ q,(Value.slice ol n cl).ownBlock = some q → w.heap.size + 2 ≤ q := fun q hq => by have := (hM7.ob.row.lt q hq).1; omega
     have kp9 : ∀ k,k < w6.heap.size → (Value.slice ol n cl).ownBlock ≠ some k → w9.heap[k]? = w6.heap[k]? := fun k hk e => (hgr9.block k (Nat.lt_of_lt_of_le hk hbx.size) e.symm).trans (hbx.block k hk)
     have hlx : (Value.slice ol n cl).ownBlock ≠ some wr.heap.size := fun e => Nat.lt_irrefl _ (HLX.out _ e)
     have hbo := kp9 (w.heap.size + 2) HS6.out.ob.sx.1 (fun e => (hM7.ob.rx _ e).2 rfl)
     have c93 : w9.cell? ⟨w.heap.size + 2,4,none⟩ = some (.slice ol n cl) := by rw [cell_of_row w9 _ 4 _ _ _ (hbo.trans HS6.out.ob.box)]; rfl
     have f93 : w9.frozen? ⟨w.heap.size + 2,4,none⟩ = false := by simp [World.frozen?,hbo.trans HS6.out.ob.box]
     have hbe := kp9 wr.heap.size HXE6.out.1 hlx
     have cc : ∀ (o : Nat) (v : Value),w6.cell? ⟨wr.heap.size,o,none⟩ = some v → w9.cell? ⟨wr.heap.size,o,none⟩ = some v := fun o v hv => by rw [World.cell?_of_block hbe]; exact hv
     refine hKK.out _ _ ⟨c93,cc _ _ HB6.out.1,cc _ _ HB6.out.2.1,cc _ _ HB6.out.2.2.1,cc _ _ HB6.out.2.2.2.1,cc _ _ HB6.out.2.2.2.2.1,cc _ _ HB6.out.2.2.2.2.2⟩ (fun hS3 => ?_)
     clear hKK KK hS2
     try simp only [Act.put,List.setIfInBounds_toArray,List.set_cons_zero,List.set_cons_succ]
     refine take_h (i := 11) (v := ?_) rfl (by kernel_rfl) (by kernel_rfl) (by kernel_rfl) (fun _ _ _ h => h) (by rfl) ?_ hS3 ?_
     rotate_left
     ·(intro X hX; obtain ⟨z0,z1,z2,z3,z4,z5,z6⟩ := hX; go_simp; try with_reducible rfl)
     try simp only [Act.put,List.setIfInBounds_toArray,List.set_cons_zero,List.set_cons_succ]
     refine wpAnyH_done (by kernel_rfl) ?_ _
     change Oper.wp _ _ _ _ _ _
     have HD := hid hd
     have hbr := kp9 (w.heap.size + 1) HR6.out.1 (fun e => by have := hor _ e; omega)
     have HZ9 := hid (show Z5 (w9.setCell ⟨w.heap.size + 2,4,none⟩ (.slice (some ⟨g9,0,none⟩) (n + 1) cap9)) (w.heap.size + 1) from by
      have e := ((set_grownW w9 (w.heap.size + 2) 4 (.slice (some ⟨g9,0,none⟩) (n + 1) cap9)).block (w.heap.size + 1) (by have := hgr9.size; have := hbx.size; have := HR6.out.1; omega) (fun e => by injection e with e; omega)).trans hbr
      have z := HZ6.out
      refine ⟨⟨by rw [World.cell?_of_block e]; exact z.1.1,by rw [World.cell?_of_block e]; exact z.1.2.1,by rw [World.cell?_of_block e]; exact z.1.2.2.1,by rw [World.cell?_of_block e]; exact z.1.2.2.2.1,by rw [World.cell?_of_block e]; exact z.1.2.2.2.2⟩,fun o => ?_⟩
      have := z.2 o
      simp only [World.frozen?] at this ⊢
      rw [e]; exact this)
     have HR9 := hid (show Sx b nv6 ev6 (w9.setCell ⟨w.heap.size + 2,4,none⟩ (.slice (some ⟨g9,0,none⟩) (n + 1) cap9)) (w.heap.size + 1) from ⟨by rw [World.size_setCell]; have := hgr9.size; have := hbx.size; have := HR6.out.1; omega,HR6.out.2⟩)
     clear hd hgr9 hown9 hS3 hM7 hbx hat9 hlt9 kp9 hbo hbe cc hbr HZ6 HR6 HS6 HH6 hH7 HB6 HXE6
     go_simp
     generalize w9.setCell ⟨w.heap.size + 2,4,none⟩ (.slice (some ⟨g9,0,none⟩) (n + 1) cap9) = w10 at *
     clear c93 f93
     have CL := hid (fleave_any (W := W) HD.out.fk (by omega))
     go_wp2_with fail
     go_at_call 222
     refine CL.out.mono ?_
     rintro e w11 ⟨rfl,nv7,hf7,hm7⟩
     have HS7 := hid (HD.out.to hf7 hm7)
     have HZ7 := hid (hm7.z5 HZ9.out HR9.out)
     have HR7 := hid (hm7.sx HR9.out)
     clear hf7 hm7 CL HD HZ9 HR9
     go_wp2_with fail
     go_roundw
     case rel => exact ⟨j + 1,n + 1,nv7,ev6,_,A ++ [(c,u,.slice o3 n3 c6,.slice o4 n4 c7)],val_int (by omega),hlt,by omega,hid (by rw [List.map_append,HAK.out,HKN.out]; rfl),hid (by rw [List.map_append,HAM.out,HAN.out,HU.out]; rfl),hid (by rw [List.length_append,HAL.out]; rfl),hid (fun a ha => by
      rcases List.mem_append.1 ha with ha | ha
      ·exact HAS.out a ha
      ·rw [List.mem_singleton.1 ha]; show c.size ≤ maxLen; have := HCS.out; unfold maxLen; omega),hid (by rw [HSN.out,← List.append_assoc,List.flatMap_append]; have h := HS7.out; simpa [lky] using h),HZ7,HR7⟩
     case measure => simp [intOf]; omega
    | false =>
     rw [HDF.out,if_pos (show (!false) = true by decide)] at HSN HAN HKN
     clear CEl
     have CN2 := hid (CNo.out nv3 w3 HS3.out.fk)
     clear CNo
     go_wp2_with fail
     go_at_call 163
     refine CN2.out.mono ?_
     rintro e w4 ⟨rfl,ev4,hf4,hm4⟩
     have HS4 := hid (HS3.out.to hf4 hm4)
     have HZ4 := hid (hm4.z5 HZ3.out HR3.out)
     have HR4 := hid (hm4.sx HR3.out)
     clear hf4 hm4 CN2 HS3 HZ3 HR3 HXE3 b0 b1 b2 b3 b4 b5
     have CL := hid (fleave_any (W := W) HS4.out.fk (by omega))
     go_wp2_with fail
     go_at_call 222
     refine CL.out.mono ?_
     rintro e w11 ⟨rfl,nv7,hf7,hm7⟩
     have HS7 := hid (HS4.out.to hf7 hm7)
     have HZ7 := hid (hm7.z5 HZ4.out HR4.out)
     have HR7 := hid (hm7.sx HR4.out)
     clear hf7 hm7 CL HS4 HZ4 HR4
     go_wp2_with fail
     go_roundw
     case rel => exact ⟨j + 1,n,nv7,ev4,_,A,val_int (by omega),hlt,by omega,hid (by rw [HKN.out,List.append_nil]; exact HAK.out),hid (by rw [HAN.out,List.append_nil]; exact HAM.out),HAL,HAS,hid (by rw [HSN.out,← List.append_assoc]; exact HS7.out),HZ7,HR7⟩
     case measure => simp [intOf]; omega
  ·have hjn : j = T.vs.length := by omega
   subst hjn
   rw [show T.vs.take T.vs.length = T.vs from List.take_length] at HAK HAM HS
   obtain ⟨ol,cl,rfl⟩ := own_slice HS.out.ob.row
   obtain ⟨⟨e0,e1,e2,e3,e4⟩,z0⟩ := HZ.out
   have hbox := HS.out.ob.box
   have q0 : wr.cell? ⟨w.heap.size + 2,0,none⟩ = some (.int .i64 6) := by rw [cell_of_row wr _ 0 _ _ _ hbox]; rfl
   have q1 : wr.cell? ⟨w.heap.size + 2,1,none⟩ = some (.int .i64 0) := by rw [cell_of_row wr _ 1 _ _ _ hbox]; rfl
   have q2 : wr.cell? ⟨w.heap.size + 2,2,none⟩ = some (.string ⟨#[]⟩) := by rw [cell_of_row wr _ 2 _ _ _ hbox]; rfl
   have q3 : wr.cell? ⟨w.heap.size + 2,3,none⟩ = some (.slice none 0 0) := by rw [cell_of_row wr _ 3 _ _ _ hbox]; rfl
   have q4 : wr.cell? ⟨w.heap.size + 2,4,none⟩ = some (.slice ol n cl) := by rw [cell_of_row wr _ 4 _ _ _ hbox]; rfl
   have HMS := hid (own_ms (S := fun q => Sx b nv2 ev2 wr q ∧ w.heap.size ≤ q ∧ q ≠ w.heap.size + 1) (by rw [HAL.out]; exact HS.out.ob.row) (fun a ha => ⟨HAS.out a ha,(HS.out.ob.els a.2 (List.mem_map.2 ⟨a,ha,rfl⟩)).onto (fun _ _ => rfl) (fun k hk => ⟨hk.1,by have := hk.2.2.2; omega,by have := hk.2.2.2; omega⟩)⟩) (fun g hg => ⟨(HS.out.ob.rx g hg).1,by have := (HS.out.ob.row.lt g hg).1; omega,by have := (HS.out.ob.row.lt g hg).1; omega⟩))
   rw [HAK.out,HAM.out] at HMS
   have HFS := hid (fits_of (W := W) (f := f) (w := w) (T := .mk 6 0 ⟨#[]⟩ [] (kpK (dropF f) T.vs T.ks) (kpV (dropF f) EF T.vs)) (x := .slice none 0 0) HS.out.fk (HMA.out.trans HS.out.mv) (hs_of (T := .mk 6 0 ⟨#[]⟩ [] (kpK (dropF f) T.vs T.ks) (kpV (dropF f) EF T.vs)) ⟨show (Lit.int .i64 6).wf = true by decide,show (Lit.int .i64 0).wf = true by decide,show (⟨#[]⟩ : ByteArray).size ≤ maxLen by decide⟩ (ls_nil _ _) HMS.out) HR.out (Nat.le_succ _) HWL.out)
   clear HS HZ HR HMS hbox
   go_wp2_with fail
   refine bodyPost_ret (v := .agg #[.int .i64 6,.int .i64 0,.string ⟨#[]⟩,.slice none 0 0,.slice ol n cl]) (by simp [results,Tryz.results167,go_sem,e0,e1,e2,e3,e4]) rfl ?_
   exact ⟨_,_,_,_,rfl,HFS.out.put _ _ _ _ _⟩
end Go.Proofs.YteimbjamnfkapaaGreatDoor
