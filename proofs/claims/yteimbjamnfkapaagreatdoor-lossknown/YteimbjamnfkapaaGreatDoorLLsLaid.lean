/- What the laws' list of variables and the world's shape give: the library's two errors, its greatest length, the heads of ints that say their base. -/
import Derived.Handed
import Derived.HandedShaped
import Derived.Test.YteimbjamnfkapaaGreatDoorLTlK
import Derived.Test.YteimbjamnfkapaaGreatDoorRows
import Derived.Stop.LaidErr
import Derived.LaidSub
import Derived.MakeChecks
import Derived.Lib.LaidU8
import Derived.Shelf.Vars
import Derived.WideShapes
import Derived.Test.YteimbjamnfkapaaGreatDoorLLoC
import Derived.Test.YteimbjamnfkapaaGreatDoorLMathFg
import Derived.Lib.LaidTab
/- What the law's list of variables and the world's shape give at stage 18. -/
namespace Go.Proofs.YteimbjamnfkapaaGreatDoor
theorem tshaped_and {H : Type} {enc : TypeId × Value → H} {a : Assume} {C : Checked} {os : Os} {f : FuncId} {fn : Func} {s : ChangeSpec} {conds : List PathCond} {apart fresh handsOn again : Bool} {X : World → Array Value → Prop}
  (hX : ∀ (w w' : World) (args : Array Value),w.heap = w'.heap → X w args → X w' args) (own : ownKnob C.prog.godebug = none) (started : os.Started) (noInit : C.prog.inits.idxOf? f = none) (hfn : C.prog.funcs[f]? = some fn)
  (seen : ∃ (w : World) (tape : Tape) (i : Input),w.os = os ∧ (w.forCall tape i).Shaped C.prog ∧ i.vars = [] ∧ Input.okWide C.prog (w.forCall tape i) .any w.heap.size f i ∧ ((s.pre enc C.prog fn conds apart (w.forCall tape i).memory i.args ∧ X (w.forCall tape i).memory i.args) ∧ sizedMet enc C.prog fn (OpenSpec.ofChange s) apart (w.forCall tape i).memory i.args) ∧ a.holds C.prog (lone (Frame.enter C.prog f i.args .normal) [] (w.forCall tape i)))
  (walk : ∀ (W : World) (base : Nat) (args : Array Value) (ds gs : List (DataW H)) (before : List MemPlace),(∀ (j : Nat) t v,fn.params[j]? = some t → args[j]? = some v → Value.okWide C.prog W .any base t v) → DataW.Whole enc C.prog fn.params.toList s.vars apart W args.toList ds gs before →
   conds.all (PathCond.test C.prog ⟨fn.params.toList,ds,s.plain.varTypes C.prog,gs⟩) = true → X W args → W.ShapedOpen C.prog → Calls C.prog f args W fun e W' => ∃ v,e = .returned v ∧ s.post enc C.prog fn apart fresh handsOn again W args v W') :
  ReturnsInHanded a C os f .any (fun w args => (s.pre enc C.prog fn conds apart w args ∧ X w args) ∧ sizedMet enc C.prog fn (OpenSpec.ofChange s) apart w args) (s.post enc C.prog fn apart fresh handsOn again) := by
 refine returnsInHanded_of_calls own started noInit seen fun w tape i _ shp _ wide pre _ => ?_
 obtain ⟨-,-,-,fn',hf',-,-,-,-,vals⟩ := wide
 obtain rfl : fn' = fn := Option.some.inj (hf'.symm.trans hfn)
 obtain ⟨⟨⟨ds,gs,before,whole,cond⟩,hx⟩,-⟩ := pre
 refine (walk _ w.heap.size i.args ds gs before vals (DataW.Whole.of_heap (w' := w.forCall tape i) (by rfl) whole) cond (hX _ _ _ (by rfl) hx) shp).mono ?_
 rintro e W' ⟨v,rfl,post⟩
 exact ChangeSpec.post_blind post
end Go.Proofs.YteimbjamnfkapaaGreatDoor
namespace Go.Proofs.YteimbjamnfkapaaGreatDoor
open Go.RowKit
theorem tls1 : Tryz.prog.globalNamed "strconv.ErrSyntax" = some 1 := by kernel_rfl
theorem tls2 : (Tryz.prog.globals[1]?).map (·.type) = some 183 := by kernel_rfl
theorem tlr1 : Tryz.prog.globalNamed "strconv.ErrRange" = some 2 := by kernel_rfl
theorem tlr2 : (Tryz.prog.globals[2]?).map (·.type) = some 183 := by kernel_rfl
theorem tle1 : Tryz.prog.cellsOf 318 = 1 := by kernel_rfl
theorem tle2 : Tryz.prog.cellsOf 9 = 1 := by kernel_rfl
theorem tle3 : Tryz.prog.cellsOf 3 = 1 := by kernel_rfl
theorem tlb1 : Tryz.prog.globalNamed "dragoman/tlex.bases" = some 3 := by kernel_rfl
theorem tlb2 : (Tryz.prog.globals[3]?).map (·.type) = some 307 := by kernel_rfl
theorem tlstar : "*errors.errorString" = "*" ++ "errors.errorString" := by decide
theorem tlrow (u : TypeId) (h : Tryz.prog.typeName? 3 u = some "*errors.errorString") : u = 316 :=
 typeName_ptr_named (nm := "errors.errorString") (by rw [← tlstar]; kernel_rfl) (by kernel_rfl) (by decide) u (by rw [← tlstar]; exact h)
theorem tpick {W : World} {l : List (String × DataW Unit)} (h : laidMetH Tryz.prog l W) (keep : String × DataW Unit → Bool) (x : String × DataW Unit) (hx : l.filter keep = [x]) (hp : x.2.handleName?.isNone = true) : laidMet Tryz.prog [x] W := by
 have k := h.filter keep
 rw [hx,MakeChecks.laidMetH_plain _ _ _ (by simp [hp])] at k
 exact k
theorem trip_of {w : World} {base : Nat} {sp : Nat → Bool} {held : Bool} {fuel : Nat} {cs : List Value} {a b : List UInt8} {c : Int} {p : List MemPlace}
  (h : DataW.trod (fun _ => ()) Tryz.prog w base sp held fuel 306 cs = some (.agg [.lit (.string a),.lit (.string b),.lit (.int .i64 c)],p)) : cs[0]? = some (.string (mkS a)) ∧ cs[1]? = some (.string (mkS b)) ∧ cs[2]? = some (.int .i64 c) := by
 obtain ⟨xs,n,rfl,hx,hl,hxl,hall⟩ := DataW.trod_struct Tryz.underlying306 h
 have h0 := hall 0 _ rfl
 have h1 := hall 1 _ rfl
 have h2 := hall 2 _ rfl
 have hxs : xs.map (·.1) = [.lit (.string a),.lit (.string b),.lit (.int .i64 c)] := by
  have := congrArg Prod.fst hx
  simpa using this.symm
 obtain ⟨x0,x1,x2,rfl⟩ : ∃ x0 x1 x2,xs = [x0,x1,x2] := by
  have := congrArg List.length hxs
  match xs,this with
  | [x0,x1,x2],_ => exact ⟨x0,x1,x2,rfl⟩
 simp only [List.map_cons,List.map_nil,List.cons.injEq,and_true] at hxs
 simp only [List.getElem?_cons_zero,List.getElem?_cons_succ] at h0 h1 h2
 obtain ⟨s0,c0,e0,-⟩ := DataW.trod_string Tryz.underlying9 h0
 obtain ⟨s1,c1,e1,-⟩ := DataW.trod_string Tryz.underlying9 h1
 obtain ⟨n2,c2,e2,-⟩ := DataW.trod_int Tryz.underlying3 h2
 rw [e0,e1,e2] at hxs
 simp only [DataW.lit.injEq,Lit.string.injEq,Lit.int.injEq,true_and] at hxs
 have c0' : (cs.drop 0).take (Tryz.prog.cellsOf 9) = [.string s0] := c0
 have c1' : (cs.drop 1).take (Tryz.prog.cellsOf 9) = [.string s1] := c1
 have c2' : (cs.drop 2).take (Tryz.prog.cellsOf 3) = [.int .i64 n2] := c2
 rw [tle2] at c0' c1'
 rw [tle3] at c2'
 obtain ⟨k0,k1,k2⟩ := hxs
 refine ⟨?_,?_,?_⟩
 ·have := congrArg (·[0]?) c0'
  rw [← k0,← self_str s0]
  simpa [List.getElem?_take,List.getElem?_drop] using this
 ·have := congrArg (·[0]?) c1'
  rw [← k1,← self_str s1]
  simpa [List.getElem?_take,List.getElem?_drop] using this
 ·have := congrArg (·[0]?) c2'
  rw [← k2]
  simpa [List.getElem?_take,List.getElem?_drop] using this
theorem tlc : Tryz.prog.cellsOf 306 = 3 := by kernel_rfl
theorem bas_datum : (Rows.laid_dragoman_tlex_bases : DataW Unit) = .agg [.agg [.lit (.string [48,120]),.lit (.string [48,49,50,51,52,53,54,55,56,57,97,98,99,100,101,102,65,66,67,68,69,70]),.lit (.int .i64 16)],.agg [.lit (.string [48,111]),.lit (.string [48,49,50,51,52,53,54,55]),.lit (.int .i64 8)],.agg [.lit (.string [48,98]),.lit (.string [48,49]),.lit (.int .i64 2)]] := by kernel_rfl
theorem globb_of {W : World} (h : Lib.VarReads Tryz.prog W "dragoman/tlex.bases" Rows.laid_dragoman_tlex_bases) : GlobB W := by
 obtain ⟨g,t,cs,fuel,p,h1,h2,h3,h4⟩ := h
 obtain rfl : g = 3 := Option.some.inj (h1.symm.trans tlb1)
 obtain rfl : t = 307 := Option.some.inj (h2.symm.trans tlb2)
 rw [bas_datum] at h4
 have hc := fun i => World.var?_cell tlb1 h3 i
 have key : ∀ i,i < 3 → ∃ a b c,([([48,120],[48,49,50,51,52,53,54,55,56,57,97,98,99,100,101,102,65,66,67,68,69,70],16),([48,111],[48,49,50,51,52,53,54,55],8),([48,98],[48,49],2)] : List (List UInt8 × List UInt8 × Int))[i]? = some (a,b,c) ∧ cs[i * 3]? = some (.string (mkS a)) ∧ cs[i * 3 + 1]? = some (.string (mkS b)) ∧ cs[i * 3 + 2]? = some (.int .i64 c) := by
  intro i hi
  obtain ⟨fuel',d,q,hd,hf⟩ := Lib.array_elem Tryz.underlying307 h4 i hi
  rw [tlc] at hf
  have hi3 : i = 0 ∨ i = 1 ∨ i = 2 := by omega
  rcases hi3 with rfl | rfl | rfl
  ·cases hd
   obtain ⟨a0,a1,a2⟩ := trip_of hf
   exact ⟨_,_,_,rfl,by simpa [List.getElem?_take,List.getElem?_drop] using a0,by simpa [List.getElem?_take,List.getElem?_drop] using a1,by simpa [List.getElem?_take,List.getElem?_drop] using a2⟩
  ·cases hd
   obtain ⟨a0,a1,a2⟩ := trip_of hf
   exact ⟨_,_,_,rfl,by simpa [List.getElem?_take,List.getElem?_drop] using a0,by simpa [List.getElem?_take,List.getElem?_drop] using a1,by simpa [List.getElem?_take,List.getElem?_drop] using a2⟩
  ·cases hd
   obtain ⟨a0,a1,a2⟩ := trip_of hf
   exact ⟨_,_,_,rfl,by simpa [List.getElem?_take,List.getElem?_drop] using a0,by simpa [List.getElem?_take,List.getElem?_drop] using a1,by simpa [List.getElem?_take,List.getElem?_drop] using a2⟩
 obtain ⟨_,_,_,r0,p0,p1,p2⟩ := key 0 (by decide)
 obtain ⟨_,_,_,r1,p3,p4,p5⟩ := key 1 (by decide)
 obtain ⟨_,_,_,r2,p6,p7,p8⟩ := key 2 (by decide)
 cases r0; cases r1; cases r2
 intro i v hv
 rw [hc]
 match i,hv with
 | 0,hv => cases hv; exact p0
 | 1,hv => cases hv; exact p1
 | 2,hv => cases hv; exact p2
 | 3,hv => cases hv; exact p3
 | 4,hv => cases hv; exact p4
 | 5,hv => cases hv; exact p5
 | 6,hv => cases hv; exact p6
 | 7,hv => cases hv; exact p7
 | 8,hv => cases hv; exact p8
 | i + 9,hv => simp [basC] at hv
theorem globn_gen {W : World} {l : List (String × DataW Unit)} (h : laidMetH Tryz.prog l W) (hsh : W.ShapedOpen Tryz.prog) (e1 : l.filter (fun x => x.1 == "strconv.ErrSyntax") = [("strconv.ErrSyntax", Rows.laid_strconv_ErrSyntax)]) (e2 : l.filter (fun x => x.1 == "strconv.ErrRange") = [("strconv.ErrRange", Rows.laid_strconv_ErrRange)])
  (e3 : l.filter (fun x => x.1 == "dragoman/tlex.bases") = [("dragoman/tlex.bases", Rows.laid_dragoman_tlex_bases)]) : GlobN W := by
 have h2 := tpick h (fun x => x.1 == "strconv.ErrSyntax") ("strconv.ErrSyntax", Rows.laid_strconv_ErrSyntax) e1 (by kernel_rfl)
 have h3 := tpick h (fun x => x.1 == "strconv.ErrRange") ("strconv.ErrRange", Rows.laid_strconv_ErrRange) e2 (by kernel_rfl)
 have h4 := tpick h (fun x => x.1 == "dragoman/tlex.bases") ("dragoman/tlex.bases", Rows.laid_dragoman_tlex_bases) e3 (by kernel_rfl)
 obtain ⟨a0,s0,hv0,-,-,-⟩ := laid_sentinel h2 tls1 tls2 Tryz.underlying183 tlrow Tryz.underlying316 Tryz.underlying318 rfl rfl Tryz.underlying9 tle1 tle2
 obtain ⟨a1,s1,hv1,-,-,-⟩ := laid_sentinel h3 tlr1 tlr2 Tryz.underlying183 tlrow Tryz.underlying316 Tryz.underlying318 rfl rfl Tryz.underlying9 tle1 tle2
 exact ⟨⟨⟨⟨_,_,hv0⟩,⟨_,_,hv1⟩⟩,cell_of_shapedOpen_int (g := 0) (t := 3) (zero := #[.int .i64 0]) hsh (of_decide_eq_true (by kernel_rfl)) (by kernel_rfl) rfl (by kernel_rfl) (by kernel_rfl) Tryz.underlying3⟩,globb_of (Lib.laidMet.reads h4 (List.mem_singleton.2 rfl))⟩
theorem f16lg1 : Tryz.prog.globalNamed "internal/strconv.uint64pow10" = some 6 := by kernel_rfl
theorem f16lg2 : (Tryz.prog.globals[6]?).map (·.type) = some 324 := by kernel_rfl
theorem f16lg3 : Tryz.prog.cellsOf 251 = 1 := by kernel_rfl
theorem f16lg4 : Tryz.prog.cellsOf 324 = 20 := by kernel_rfl
theorem f16ls1 : Tryz.prog.globalNamed "strconv.ErrSyntax" = some 1 := by kernel_rfl
theorem f16ls2 : (Tryz.prog.globals[1]?).map (·.type) = some 183 := by kernel_rfl
theorem f16lr1 : Tryz.prog.globalNamed "strconv.ErrRange" = some 2 := by kernel_rfl
theorem f16lr2 : (Tryz.prog.globals[2]?).map (·.type) = some 183 := by kernel_rfl
theorem f16le1 : Tryz.prog.cellsOf 318 = 1 := by kernel_rfl
theorem f16le2 : Tryz.prog.cellsOf 9 = 1 := by kernel_rfl
theorem f16lstar : "*errors.errorString" = "*" ++ "errors.errorString" := by decide
theorem f16lrow (u : TypeId) (h : Tryz.prog.typeName? 3 u = some "*errors.errorString") : u = 316 :=
 typeName_ptr_named (nm := "errors.errorString") (by rw [← f16lstar]; kernel_rfl) (by kernel_rfl) (by decide) u (by rw [← f16lstar]; exact h)
theorem f16pick_laid {W : World} {l : List (String × DataW Unit)} (h : laidMetH Tryz.prog l W) (keep : String × DataW Unit → Bool) (x : String × DataW Unit) (hx : l.filter keep = [x]) (hp : x.2.handleName?.isNone = true) : laidMet Tryz.prog [x] W := by
 have k := h.filter keep
 rw [hx,MakeChecks.laidMetH_plain _ _ _ (by simp [hp])] at k
 exact k
theorem glob_fl {W : World} (h : laidMetH Tryz.prog Rows.lossKnownRow.laid W) (hsh : W.ShapedOpen Tryz.prog) : GlobF W := by
 have h1 := f16pick_laid h (fun x => x.1 == "internal/strconv.uint64pow10") ("internal/strconv.uint64pow10", Rows.laid_internal_strconv_uint64pow10) (by kernel_rfl) (by kernel_rfl)
 have h2 := f16pick_laid h (fun x => x.1 == "strconv.ErrSyntax") ("strconv.ErrSyntax", Rows.laid_strconv_ErrSyntax) (by kernel_rfl) (by kernel_rfl)
 have h3 := f16pick_laid h (fun x => x.1 == "strconv.ErrRange") ("strconv.ErrRange", Rows.laid_strconv_ErrRange) (by kernel_rfl) (by kernel_rfl)
 obtain ⟨a0,s0,hv0,-,-,-⟩ := laid_sentinel h2 f16ls1 f16ls2 Tryz.underlying183 f16lrow Tryz.underlying316 Tryz.underlying318 rfl rfl Tryz.underlying9 f16le1 f16le2
 obtain ⟨a1,s1,hv1,-,-,-⟩ := laid_sentinel h3 f16lr1 f16lr2 Tryz.underlying183 f16lrow Tryz.underlying316 Tryz.underlying318 rfl rfl Tryz.underlying9 f16le1 f16le2
 have ht := Lib.tabIs_of_head (rest := []) (zs := Lib.pow10Tab) f16lg1 f16lg2 Tryz.underlying324 Tryz.underlying251 f16lg3 f16lg4 h1
 exact ⟨⟨⟨⟨_,_,hv0⟩,⟨_,_,hv1⟩⟩,ht⟩,⟨cell_of_shapedOpen_int (g := 0) (t := 3) (zero := #[.int .i64 0]) hsh (of_decide_eq_true (by kernel_rfl)) (by kernel_rfl) rfl (by kernel_rfl) (by kernel_rfl) Tryz.underlying3,ht,⟨_,_,hv1⟩⟩⟩
theorem glob_l {W : World} (h : laidMetH Tryz.prog Rows.lossKnownRow.laid W) (hsh : W.ShapedOpen Tryz.prog) : GlobL W := ⟨glob_fl h hsh,globn_gen h hsh (by kernel_rfl) (by kernel_rfl) (by kernel_rfl)⟩
end Go.Proofs.YteimbjamnfkapaaGreatDoor
