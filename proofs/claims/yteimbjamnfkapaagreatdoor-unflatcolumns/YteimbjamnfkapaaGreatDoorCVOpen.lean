/- What the laws' list of variables and the world's shape give at stage 16: the library's table of powers, its two errors, its greatest length. -/
import Derived.Handed
import Derived.HandedShaped
import Derived.Test.YteimbjamnfkapaaGreatDoorCFlO
import Derived.Test.YteimbjamnfkapaaGreatDoorRows
import Derived.Stop.LaidErr
import Derived.LaidSub
import Derived.MakeChecks
import Derived.Lib.LaidTab
import Derived.Shelf.Vars
import Derived.WideShapes
import Derived.Test.YteimbjamnfkapaaGreatDoorCVBase
/- An argument that is a value: its tree. -/
namespace Go.Proofs.YteimbjamnfkapaaGreatDoor
theorem tshaped_and {H : Type} {enc : TypeId × Value → H} {a : Assume} {C : Checked} {os : Os} {f : FuncId} {fn : Func} {s : ChangeSpec} {conds : List PathCond} {apart fresh handsOn again : Bool} {X : World → Array Value → Prop}
  (hX : ∀ (w w' : World) (args : Array Value), w.heap = w'.heap → X w args → X w' args) (own : ownKnob C.prog.godebug = none) (started : os.Started) (noInit : C.prog.inits.idxOf? f = none) (hfn : C.prog.funcs[f]? = some fn)
  (seen : ∃ (w : World) (tape : Tape) (i : Input), w.os = os ∧ (w.forCall tape i).Shaped C.prog ∧ i.vars = [] ∧ Input.okWide C.prog (w.forCall tape i) .any w.heap.size f i ∧ ((s.pre enc C.prog fn conds apart (w.forCall tape i).memory i.args ∧ X (w.forCall tape i).memory i.args) ∧ sizedMet enc C.prog fn (OpenSpec.ofChange s) apart (w.forCall tape i).memory i.args) ∧ a.holds C.prog (lone (Frame.enter C.prog f i.args .normal) [] (w.forCall tape i)))
  (walk : ∀ (W : World) (base : Nat) (args : Array Value) (ds gs : List (DataW H)) (before : List MemPlace), (∀ (j : Nat) t v, fn.params[j]? = some t → args[j]? = some v → Value.okWide C.prog W .any base t v) → DataW.Whole enc C.prog fn.params.toList s.vars apart W args.toList ds gs before →
   conds.all (PathCond.test C.prog ⟨fn.params.toList, ds, s.plain.varTypes C.prog, gs⟩) = true → X W args → W.ShapedOpen C.prog → Calls C.prog f args W fun e W' => ∃ v, e = .returned v ∧ s.post enc C.prog fn apart fresh handsOn again W args v W') :
  ReturnsInHanded a C os f .any (fun w args => (s.pre enc C.prog fn conds apart w args ∧ X w args) ∧ sizedMet enc C.prog fn (OpenSpec.ofChange s) apart w args) (s.post enc C.prog fn apart fresh handsOn again) := by
 refine returnsInHanded_of_calls own started noInit seen fun w tape i _ shp _ wide pre _ => ?_
 obtain ⟨-, -, -, fn', hf', -, -, -, -, vals⟩ := wide
 obtain rfl : fn' = fn := Option.some.inj (hf'.symm.trans hfn)
 obtain ⟨⟨⟨ds, gs, before, whole, cond⟩, hx⟩, -⟩ := pre
 refine (walk _ w.heap.size i.args ds gs before vals (DataW.Whole.of_heap (w' := w.forCall tape i) (by rfl) whole) cond (hX _ _ _ (by rfl) hx) shp).mono ?_
 rintro e W' ⟨v, rfl, post⟩
 exact ChangeSpec.post_blind post
end Go.Proofs.YteimbjamnfkapaaGreatDoor
namespace Go.Proofs.YteimbjamnfkapaaGreatDoor
open Go.RowKit
theorem f16lg1 : Tryz.prog.globalNamed "internal/strconv.uint64pow10" = some 6 := by kernel_rfl
theorem f16lg2 : (Tryz.prog.globals[6]?).map (·.type) = some 324 := by kernel_rfl
theorem f16lg3 : Tryz.prog.cellsOf 251 = 1 := by kernel_rfl
theorem f16lg4 : Tryz.prog.cellsOf 324 = 20 := by kernel_rfl
theorem f16ls1 : Tryz.prog.globalNamed "strconv.ErrSyntax" = some 1 := by kernel_rfl
theorem f16ls2 : (Tryz.prog.globals[1]?).map (·.type) = some 183 := by kernel_rfl
theorem f16lr1 : Tryz.prog.globalNamed "strconv.ErrRange" = some 2 := by kernel_rfl
theorem f16lr2 : (Tryz.prog.globals[2]?).map (·.type) = some 183 := by kernel_rfl
theorem f16le1 : Tryz.prog.cellsOf 318 = 1 := by kernel_rfl
theorem f16le2 : Tryz.prog.cellsOf 9 = 1 := by kernel_rfl
theorem f16lstar : "*errors.errorString" = "*" ++ "errors.errorString" := by decide
theorem f16lrow (u : TypeId) (h : Tryz.prog.typeName? 3 u = some "*errors.errorString") : u = 316 :=
 typeName_ptr_named (nm := "errors.errorString") (by rw [← f16lstar]; kernel_rfl) (by kernel_rfl) (by decide) u (by rw [← f16lstar]; exact h)
theorem f16pick_laid {W : World} {l : List (String × DataW Unit)} (h : laidMetH Tryz.prog l W) (keep : String × DataW Unit → Bool) (x : String × DataW Unit) (hx : l.filter keep = [x]) (hp : x.2.handleName?.isNone = true) : laidMet Tryz.prog [x] W := by
 have k := h.filter keep
 rw [hx, MakeChecks.laidMetH_plain _ _ _ (by simp [hp])] at k
 exact k
theorem glob_f {W : World} (h : laidMetH Tryz.prog Rows.unflatColumnsRow.laid W) (hsh : W.ShapedOpen Tryz.prog) : GlobF W := by
 have h1 := f16pick_laid h (fun x => x.1 == "internal/strconv.uint64pow10") ("internal/strconv.uint64pow10", Rows.laid_internal_strconv_uint64pow10) (by kernel_rfl) (by kernel_rfl)
 have h2 := f16pick_laid h (fun x => x.1 == "strconv.ErrSyntax") ("strconv.ErrSyntax", Rows.laid_strconv_ErrSyntax) (by kernel_rfl) (by kernel_rfl)
 have h3 := f16pick_laid h (fun x => x.1 == "strconv.ErrRange") ("strconv.ErrRange", Rows.laid_strconv_ErrRange) (by kernel_rfl) (by kernel_rfl)
 obtain ⟨a0, s0, hv0, -, -, -⟩ := laid_sentinel h2 f16ls1 f16ls2 Tryz.underlying183 f16lrow Tryz.underlying316 Tryz.underlying318 rfl rfl Tryz.underlying9 f16le1 f16le2
 obtain ⟨a1, s1, hv1, -, -, -⟩ := laid_sentinel h3 f16lr1 f16lr2 Tryz.underlying183 f16lrow Tryz.underlying316 Tryz.underlying318 rfl rfl Tryz.underlying9 f16le1 f16le2
 have ht := Lib.tabIs_of_head (rest := []) (zs := Lib.pow10Tab) f16lg1 f16lg2 Tryz.underlying324 Tryz.underlying251 f16lg3 f16lg4 h1
 exact ⟨⟨⟨⟨_, _, hv0⟩, ⟨_, _, hv1⟩⟩, ht⟩, ⟨cell_of_shapedOpen_int (g := 0) (t := 3) (zero := #[.int .i64 0]) hsh (of_decide_eq_true (by kernel_rfl)) (by kernel_rfl) rfl (by kernel_rfl) (by kernel_rfl) Tryz.underlying3, ht, ⟨_, _, hv1⟩⟩⟩
end Go.Proofs.YteimbjamnfkapaaGreatDoor
namespace Go.Proofs.YteimbjamnfkapaaGreatDoor
open Go.RowKit Go.WideShapes
set_option maxRecDepth 100000 in
theorem open_tree {H : Type} {enc : TypeId × Value → H} {w W : World} {base b : Nat} {r : Reach} {spare : Nat → Bool} {held : Bool} {v : Value} {d : DataW H} {ps : List MemPlace}
  (hv : Value.okWide Tryz.prog W r b 29 v) (h : DataW.Trod enc Tryz.prog w base spare held 29 v d ps) : ∃ (T : VT) (x y : Value), v = vv T x y ∧ HV w T x y := by
 obtain ⟨cs, rfl, -⟩ := okWide_struct Tryz.underlying29 hv
 obtain ⟨fuel, hf⟩ := h
 obtain ⟨T, x, y, hc, hT⟩ := tree_of fuel _ _ hf
 refine ⟨T, x, y, ?_, hT⟩
 have : cs.toList = [.int .i64 T.kd, .int .i64 T.nm, .string T.st, x, y] := by simpa [Value.cells] using hc
 unfold vv
 congr 1
 apply Array.ext'
 rw [this]
end Go.Proofs.YteimbjamnfkapaaGreatDoor
