/- What the laws' list of variables and the world's shape give: the tables of the decoder of letters, the library's greatest length. -/
import Derived.Handed
import Derived.HandedShaped
import Derived.Test.YtjbccmnmcjmooaaDoorCpA
import Derived.Test.YtjbccmnmcjmooaaDoorShelf4
import Derived.LaidSub
import Derived.MakeChecks
import Derived.Lib.LaidU8
import Derived.Shelf.Vars
import Derived.WideShapes
namespace Go.Proofs.YtjbccmnmcjmooaaDoor

theorem tshaped_and {H : Type} {enc : TypeId × Value → H} {a : Assume} {C : Checked} {os : Os} {f : FuncId} {fn : Func} {s : ChangeSpec} {conds : List PathCond} {apart fresh handsOn again : Bool} {X : World → Array Value → Prop}
    (hX : ∀ (w w' : World) (args : Array Value), w.heap = w'.heap → X w args → X w' args) (own : ownKnob C.prog.godebug = none) (started : os.Started) (noInit : C.prog.inits.idxOf? f = none) (hfn : C.prog.funcs[f]? = some fn)
    (seen : ∃ (w : World) (tape : Tape) (i : Input), w.os = os ∧ (w.forCall tape i).Shaped C.prog ∧ i.vars = [] ∧ Input.okWide C.prog (w.forCall tape i) .any w.heap.size f i ∧ ((s.pre enc C.prog fn conds apart (w.forCall tape i).memory i.args ∧ X (w.forCall tape i).memory i.args) ∧ sizedMet enc C.prog fn (OpenSpec.ofChange s) apart (w.forCall tape i).memory i.args) ∧ a.holds C.prog (lone (Frame.enter C.prog f i.args .normal) [] (w.forCall tape i)))
    (walk : ∀ (W : World) (base : Nat) (args : Array Value) (ds gs : List (DataW H)) (before : List MemPlace), (∀ (j : Nat) t v, fn.params[j]? = some t → args[j]? = some v → Value.okWide C.prog W .any base t v) → DataW.Whole enc C.prog fn.params.toList s.vars apart W args.toList ds gs before →
      conds.all (PathCond.test C.prog ⟨fn.params.toList, ds, s.plain.varTypes C.prog, gs⟩) = true → X W args → W.ShapedOpen C.prog → Calls C.prog f args W fun e W' => ∃ v, e = .returned v ∧ s.post enc C.prog fn apart fresh handsOn again W args v W') :
    ReturnsInHanded a C os f .any (fun w args => (s.pre enc C.prog fn conds apart w args ∧ X w args) ∧ sizedMet enc C.prog fn (OpenSpec.ofChange s) apart w args) (s.post enc C.prog fn apart fresh handsOn again) := by
  refine returnsInHanded_of_calls own started noInit seen fun w tape i _ shp _ wide pre _ => ?_
  obtain ⟨-, -, -, fn', hf', -, -, -, -, vals⟩ := wide
  obtain rfl : fn' = fn := Option.some.inj (hf'.symm.trans hfn)
  obtain ⟨⟨⟨ds, gs, before, whole, cond⟩, hx⟩, -⟩ := pre
  refine (walk _ w.heap.size i.args ds gs before vals (DataW.Whole.of_heap (w' := w.forCall tape i) (by rfl) whole) cond (hX _ _ _ (by rfl) hx) shp).mono ?_
  rintro e W' ⟨v, rfl, post⟩
  exact ChangeSpec.post_blind post
end Go.Proofs.YtjbccmnmcjmooaaDoor
namespace Go.Proofs.YtjbccmnmcjmooaaDoor
open Go.RowKit

theorem cu1 : Rows.laid_unicode_utf8_first = Lib.firstData := by kernel_rfl
theorem cu2 : (Rows.laid_unicode_utf8_acceptRanges : DataW Unit) = Lib.acceptData := by kernel_rfl
theorem Tryd.u8x : U8Extra Tryd.prog Tryd.lays260_ren where
  n3 := by kernel_rfl
  n4 := by kernel_rfl
  y3 := by kernel_rfl
  y4 := by kernel_rfl
  c5 := by kernel_rfl
  c119 := by kernel_rfl
  c138 := by kernel_rfl
/-- one entry of the list -/
theorem cpick {W : World} {l : List (String × DataW Unit)} (h : laidMetH Tryd.prog l W) (keep : String × DataW Unit → Bool) (x : String × DataW Unit) (hx : l.filter keep = [x]) (hp : x.2.handleName?.isNone = true) : laidMet Tryd.prog [x] W := by
  have k := h.filter keep
  rw [hx, MakeChecks.laidMetH_plain _ _ _ (by simp [hp])] at k
  exact k
theorem globc {W : World} (h : laidMetH Tryd.prog Rows.cprintKnownRow.laid W) (hsh : W.ShapedOpen Tryd.prog) : GlobC W := by
  have h1 := cpick h (fun x => x.1 == "unicode/utf8.first") ("unicode/utf8.first", Rows.laid_unicode_utf8_first) (by kernel_rfl) (by kernel_rfl)
  have h2 := cpick h (fun x => x.1 == "unicode/utf8.acceptRanges") ("unicode/utf8.acceptRanges", Rows.laid_unicode_utf8_acceptRanges) (by kernel_rfl) (by kernel_rfl)
  have r1 := Lib.laidMet.reads h1 (List.mem_singleton.2 rfl)
  have r2 := Lib.laidMet.reads h2 (List.mem_singleton.2 rfl)
  rw [cu1] at r1
  rw [cu2] at r2
  exact ⟨cell_of_shapedOpen_int (g := 2) (t := 3) (zero := #[.int .i64 0]) hsh (of_decide_eq_true (by kernel_rfl)) (by kernel_rfl) rfl (by kernel_rfl) (by kernel_rfl) Tryd.underlying3, utf8Tabs_of_reads { Tryd.lays260 with } Tryd.u8x r1 r2⟩
end Go.Proofs.YtjbccmnmcjmooaaDoor
