/- What the laws' list of variables and the world's shape give at stage 16: the library's table of powers, its two errors, its greatest length. -/
import Derived.Test.YtadbeodeiijhdaaGreatDoorKUnP
import Derived.Handed
import Derived.HandedShaped
import Derived.Test.YtadbeodeiijhdaaGreatDoorKRefVal2
import Derived.Test.YtadbeodeiijhdaaGreatDoorRows
import Derived.Stop.LaidErr
import Derived.LaidSub
import Derived.MakeChecks
import Derived.Lib.LaidTab
import Derived.Shelf.Vars
import Derived.WideShapes
/- UnflatKnown, walked. -/
namespace Go.Proofs.YtadbeodeiijhdaaGreatDoor
open Go.RowKit

theorem build_nil (w : World) (hg : GlobF w) : Calls Tryz.prog 23 #[.slice none 0 0] w fun e w' => ∃ x y, e = .returned (.tuple #[vv zeroT x y, .int .i64 1, .int .i64 ((0 : Nat) : Int)]) ∧ HV w' zeroT x y ∧ Below w.heap.size w w' := by
  refine (build_any [] _ _ ⟨⟨0, 0, none⟩, ⟨_, _, rfl, Nat.le_refl _, by decide, fun h => absurd h (by simp)⟩, fun i e he => by simp at he⟩ hg.1.1 (fun e he => by simp at he) (fun e he => by simp at he) (by simp) (fun e he => by simp at he)).mono ?_
  rintro e w' ⟨T', x, y, k', i', rfl, hu, hv, hb2⟩
  obtain ⟨rfl, rfl, rfl⟩ := hu.one bp_nil
  exact ⟨x, y, rfl, hv.hv, hb2⟩
theorem unflat_two (w : World) (hg : GlobF w) :
    Calls Tryz.prog 22 #[.agg #[.slice (some ⟨w.heap.size, 0, none⟩) 1 1, .slice (some ⟨w.heap.size + 1 + 1 + 1, 0, none⟩) 2 2]] ((((w.alloc (.cells #[.string ⟨#[97]⟩] 9)).alloc (.cells #[.string ⟨#[49]⟩] 9)).alloc (.cells #[] 9)).alloc (.cells #[.slice (some ⟨w.heap.size + 1, 0, none⟩) 1 1, .slice (some ⟨w.heap.size + 1 + 1, 0, none⟩) 0 0] 42)) fun e w' => ∃ x y, e = .returned (.tuple #[vv zeroT x y, .int .i64 7, .int .i64 ((2 : Nat) : Int), .int .i64 ((0 : Nat) : Int)]) ∧ HV w' zeroT x y ∧ Below w.heap.size w w' := by
  obtain ⟨W, hW⟩ : ∃ W, ((((w.alloc (.cells #[.string ⟨#[97]⟩] 9)).alloc (.cells #[.string ⟨#[49]⟩] 9)).alloc (.cells #[] 9)).alloc (.cells #[.slice (some ⟨w.heap.size + 1, 0, none⟩) 1 1, .slice (some ⟨w.heap.size + 1 + 1, 0, none⟩) 0 0] 42)) = W := ⟨_, rfl⟩
  have hb : Below w.heap.size w W := by rw [← hW]; exact valloc_bel (valloc_bel (valloc_bel (valloc_bel (Below.refl _ _) _) _) _) _
  have b0 : W.heap[w.heap.size]? = some (.cells #[.string ⟨#[97]⟩] 9) := by rw [← hW, alloc_lt (by simp; omega), alloc_lt (by simp; omega), alloc_lt (by simp)]; exact alloc_at _ _
  have b1 : W.heap[w.heap.size + 1]? = some (.cells #[.string ⟨#[49]⟩] 9) := by
    rw [← hW, alloc_lt (by simp), alloc_lt (by simp)]
    have := alloc_at (w.alloc (.cells #[.string ⟨#[97]⟩] 9)) (.cells #[.string ⟨#[49]⟩] 9)
    rwa [World.size_alloc] at this
  have b3 : W.heap[w.heap.size + 1 + 1 + 1]? = some (.cells #[.slice (some ⟨w.heap.size + 1, 0, none⟩) 1 1, .slice (some ⟨w.heap.size + 1 + 1, 0, none⟩) 0 0] 42) := by
    rw [← hW]
    have := alloc_at (((w.alloc (.cells #[.string ⟨#[97]⟩] 9)).alloc (.cells #[.string ⟨#[49]⟩] 9)).alloc (.cells #[] 9)) (.cells #[.slice (some ⟨w.heap.size + 1, 0, none⟩) 1 1, .slice (some ⟨w.heap.size + 1 + 1, 0, none⟩) 0 0] 42)
    rwa [World.size_alloc, World.size_alloc, World.size_alloc] at this
  have h0 : W.cell? ⟨w.heap.size, 0, none⟩ = some (.string ⟨#[97]⟩) := by rw [cell_of_row W _ 0 _ _ _ b0]; rfl
  have h1 : W.cell? ⟨w.heap.size + 1, 0, none⟩ = some (.string ⟨#[49]⟩) := by rw [cell_of_row W _ 0 _ _ _ b1]; rfl
  have h3 : W.cell? ⟨w.heap.size + 1 + 1 + 1, 0, none⟩ = some (.slice (some ⟨w.heap.size + 1, 0, none⟩) 1 1) := by rw [cell_of_row W _ 0 _ _ _ b3]; rfl
  have h4 : W.cell? ⟨w.heap.size + 1 + 1 + 1, 1, none⟩ = some (.slice (some ⟨w.heap.size + 1 + 1, 0, none⟩) 0 0) := by rw [cell_of_row W _ 1 _ _ _ b3]; rfl
  rw [hW]
  have one : ∀ (b : Nat) (c : ByteArray), W.cell? ⟨b, 0, none⟩ = some (.string c) → c.size ≤ maxLen → InS W [c] (.slice (some ⟨b, 0, none⟩) 1 1) := fun b c hc hs => ⟨⟨b, 0, none⟩, ⟨_, _, rfl, Nat.le_refl _, by decide, fun _ => rfl⟩, fun i d hd => by
    have := lt_of_some hd
    simp at this
    subst this
    simp at hd; subst hd
    exact ⟨by rw [add_at]; exact hc, hs⟩⟩
  refine (unflat_is up_k2 _ _ W (one _ _ h0 (by decide)) ⟨⟨w.heap.size + 1 + 1 + 1, 0, none⟩, ⟨_, _, rfl, Nat.le_refl _, by decide, fun _ => rfl⟩, fun i R hR => ?_⟩ (hg.on hb) (by decide) (by decide) (by decide) (by decide) (pk_a pk_nil)).mono ?_
  · rw [add_at]
    have := lt_of_some hR
    simp at this
    match i, hR with
    | 0, hR => simp at hR; subst hR; exact ⟨_, h3, one _ _ h1 (by decide)⟩
    | 1, hR =>
      simp at hR; subst hR
      exact ⟨_, h4, ⟨⟨w.heap.size + 1 + 1, 0, none⟩, ⟨_, _, rfl, Nat.le_refl _, by decide, fun _ => rfl⟩, fun i c hc => by simp at hc⟩⟩
    | i + 2, hR => omega
  · rintro e w' ⟨x, y, rfl, hv, hb2⟩
    exact ⟨x, y, rfl, hv, vonto hb hb2⟩
theorem unflat_none (w : World) (hg : GlobF w) :
    Calls Tryz.prog 22 #[.agg #[.slice (some ⟨w.heap.size, 0, none⟩) 1 1, .slice none 0 0]] (w.alloc (.cells #[.string ⟨#[97]⟩] 9)) fun e w' => ∃ x y, e = .returned (.tuple #[vv zeroT x y, .int .i64 1, .int .i64 ((0 : Nat) : Int), .int .i64 ((0 : Nat) : Int)]) ∧ HV w' zeroT x y ∧ Below w.heap.size w w' := by
  have hb : Below w.heap.size w (w.alloc (.cells #[.string ⟨#[97]⟩] 9)) := valloc_bel (Below.refl _ _) _
  have hin : InS (w.alloc (.cells #[.string ⟨#[97]⟩] 9)) [⟨#[97]⟩] (.slice (some ⟨w.heap.size, 0, none⟩) 1 1) := ins_strs (K := [⟨#[97]⟩]) (alloc_at _ _) (by decide) (by decide)
  refine (unflat_is up_k5 _ _ _ hin ⟨⟨0, 0, none⟩, ⟨_, _, rfl, Nat.le_refl _, by decide, fun h => absurd h (by simp)⟩, fun i e he => by simp at he⟩ (hg.on hb) (by decide) (by decide) (by decide) (by simp) (pk_a pk_nil)).mono ?_
  rintro e w' ⟨x, y, rfl, hv, hb2⟩
  exact ⟨x, y, rfl, hv, vonto hb hb2⟩
set_option maxRecDepth 100000 in
set_option maxHeartbeats 700000 in
theorem Tryz.unflatKnown_walk (w : World) (hg : GlobF w) : Calls Tryz.prog 4 #[] w fun e w' => e = .returned (.bool true) ∧ Below w.heap.size w w' := by
  have HG := hid hg
  have HA := hid (awake17 w hg)
  clear hg
  go_enter Tryz.func4, Tryz.ntmps4
  go_wp2_with fail
  go_at_call 21
  refine HA.out.mono ?_
  rintro e w0 ⟨rfl, hb0⟩
  have HB0 := hid hb0
  clear hb0 HA
  go_wp2_with fail
  go_at_call 22
  refine (unflat_tab up_k1 w0 (HG.out.on HB0.out) (by decide) (by decide) (by decide) (by decide) (pk_a (pk_a pk_nil)) rfl rfl rfl rfl rfl rfl).mono ?_
  rintro e w1 ⟨x, y, rfl, hv, hb1⟩
  obtain ⟨ox, nx2, cx, oy, ny2, cy, rfl, rfl⟩ := hv_slices hv
  have HB1 := hid (vonto HB0.out hb1)
  clear hb1 hv HB0
  simp only [vv, zeroT, VT.kd, VT.nm, VT.st]
  go_upto_region 4 with fail
  refine cewp_gen ?_
  intro W1 hW
  have hbW : Below w1.heap.size w1 W1 := by rw [hW]; exact valloc_bel (Below.refl _ _) _
  have HBW := hid (vonto HB1.out hbW)
  clear hW hbW HB1
  go_wp2_with fail
  go_at_call 22
  refine (unflat_two W1 (HG.out.on HBW.out)).mono ?_
  rintro e w2 ⟨x, y, rfl, hv, hb2⟩
  obtain ⟨ox2, nx2, cx2, oy2, ny2, cy2, rfl, rfl⟩ := hv_slices hv
  have HB := hid (vonto HBW.out hb2)
  clear hb2 hv HBW
  simp only [vv, zeroT, VT.kd, VT.nm, VT.st]
  go_upto_region 5 with fail
  refine cewp_gen ?_
  intro W2 hW
  have hbW : Below w2.heap.size w2 W2 := by rw [hW]; exact valloc_bel (Below.refl _ _) _
  have HBW := hid (vonto HB.out hbW)
  clear hW hbW HB
  go_wp2_with fail
  go_at_call 22
  refine (unflat_tab up_k3 W2 (HG.out.on HBW.out) (by decide) (by decide) (by decide) (by decide) (pk_a (pk_ab pk_nil)) rfl rfl rfl rfl rfl rfl).mono ?_
  rintro e w3 ⟨x, y, rfl, hv, hb3⟩
  obtain ⟨ox3, nx3, cx3, oy3, ny3, cy3, rfl, rfl⟩ := hv_slices hv
  have HB := hid (vonto HBW.out hb3)
  clear hb3 hv HBW
  simp only [vv, zeroT, VT.kd, VT.nm, VT.st]
  go_upto_region 6 with fail
  refine cewp_gen ?_
  intro W3 hW
  have hbW : Below w3.heap.size w3 W3 := by rw [hW]; exact valloc_bel (Below.refl _ _) _
  have HBW := hid (vonto HB.out hbW)
  clear hW hbW HB
  go_wp2_with fail
  go_at_call 22
  refine (unflat_tab up_k4 W3 (HG.out.on HBW.out) (by decide) (by decide) (by decide) (by decide) (pk_a pk_nil) rfl rfl rfl rfl rfl rfl).mono ?_
  rintro e w4 ⟨x, y, rfl, hv, hb4⟩
  obtain ⟨ox4, nx4, cx4, oy4, ny4, cy4, rfl, rfl⟩ := hv_slices hv
  have HB := hid (vonto HBW.out hb4)
  clear hb4 hv HBW
  simp only [vv, zeroT, VT.kd, VT.nm, VT.st]
  go_upto_region 7 with fail
  refine cewp_gen ?_
  intro W4 hW
  have hbW : Below w4.heap.size w4 W4 := by rw [hW]; exact valloc_bel (Below.refl _ _) _
  have HBW := hid (vonto HB.out hbW)
  clear hW hbW HB
  go_wp2_with fail
  go_at_call 22
  refine (unflat_none W4 (HG.out.on HBW.out)).mono ?_
  rintro e w5 ⟨x, y, rfl, hv, hb5⟩
  obtain ⟨ox5, nx5, cx5, oy5, ny5, cy5, rfl, rfl⟩ := hv_slices hv
  have HB := hid (vonto HBW.out hb5)
  clear hb5 hv HBW
  simp only [vv, zeroT, VT.kd, VT.nm, VT.st]
  go_upto_region 8 with fail
  refine cewp_gen ?_
  intro W5 hW
  have hbW : Below w5.heap.size w5 W5 := by rw [hW]; exact valloc_bel (Below.refl _ _) _
  have HBW := hid (vonto HB.out hbW)
  clear hW hbW HB
  go_wp2_with fail
  go_at_call 23
  refine (build_nil W5 (HG.out.on HBW.out)).mono ?_
  rintro e w6 ⟨x, y, rfl, hv, hb6⟩
  obtain ⟨ox6, nx6, cx6, oy6, ny6, cy6, rfl, rfl⟩ := hv_slices hv
  have HB := hid (vonto HBW.out hb6)
  clear hb6 hv HBW
  simp only [vv, zeroT, VT.kd, VT.nm, VT.st]
  go_upto_region 9 with fail
  refine cewp_gen ?_
  intro W6 hW
  have hbW : Below w6.heap.size w6 W6 := by rw [hW]; exact valloc_bel (Below.refl _ _) _
  have HBW := hid (vonto HB.out hbW)
  clear hW hbW HB
  go_wp2_with fail
  go_ret
  exact ⟨rfl, HBW.out⟩
end Go.Proofs.YtadbeodeiijhdaaGreatDoor
namespace Go.Proofs.YtadbeodeiijhdaaGreatDoor

theorem tshaped_and {H : Type} {enc : TypeId × Value → H} {a : Assume} {C : Checked} {os : Os} {f : FuncId} {fn : Func} {s : ChangeSpec} {conds : List PathCond} {apart fresh handsOn again : Bool} {X : World → Array Value → Prop}
    (hX : ∀ (w w' : World) (args : Array Value), w.heap = w'.heap → X w args → X w' args) (own : ownKnob C.prog.godebug = none) (started : os.Started) (noInit : C.prog.inits.idxOf? f = none) (hfn : C.prog.funcs[f]? = some fn)
    (seen : ∃ (w : World) (tape : Tape) (i : Input), w.os = os ∧ (w.forCall tape i).Shaped C.prog ∧ i.vars = [] ∧ Input.okWide C.prog (w.forCall tape i) .any w.heap.size f i ∧ ((s.pre enc C.prog fn conds apart (w.forCall tape i).memory i.args ∧ X (w.forCall tape i).memory i.args) ∧ sizedMet enc C.prog fn (OpenSpec.ofChange s) apart (w.forCall tape i).memory i.args) ∧ a.holds C.prog (lone (Frame.enter C.prog f i.args .normal) [] (w.forCall tape i)))
    (walk : ∀ (W : World) (base : Nat) (args : Array Value) (ds gs : List (DataW H)) (before : List MemPlace), (∀ (j : Nat) t v, fn.params[j]? = some t → args[j]? = some v → Value.okWide C.prog W .any base t v) → DataW.Whole enc C.prog fn.params.toList s.vars apart W args.toList ds gs before →
      conds.all (PathCond.test C.prog ⟨fn.params.toList, ds, s.plain.varTypes C.prog, gs⟩) = true → X W args → W.ShapedOpen C.prog → Calls C.prog f args W fun e W' => ∃ v, e = .returned v ∧ s.post enc C.prog fn apart fresh handsOn again W args v W') :
    ReturnsInHanded a C os f .any (fun w args => (s.pre enc C.prog fn conds apart w args ∧ X w args) ∧ sizedMet enc C.prog fn (OpenSpec.ofChange s) apart w args) (s.post enc C.prog fn apart fresh handsOn again) := by
  refine returnsInHanded_of_calls own started noInit seen fun w tape i _ shp _ wide pre _ => ?_
  obtain ⟨-, -, -, fn', hf', -, -, -, -, vals⟩ := wide
  obtain rfl : fn' = fn := Option.some.inj (hf'.symm.trans hfn)
  obtain ⟨⟨⟨ds, gs, before, whole, cond⟩, hx⟩, -⟩ := pre
  refine (walk _ w.heap.size i.args ds gs before vals (DataW.Whole.of_heap (w' := w.forCall tape i) (by rfl) whole) cond (hX _ _ _ (by rfl) hx) shp).mono ?_
  rintro e W' ⟨v, rfl, post⟩
  exact ChangeSpec.post_blind post
end Go.Proofs.YtadbeodeiijhdaaGreatDoor
namespace Go.Proofs.YtadbeodeiijhdaaGreatDoor
open Go.RowKit

theorem f16lg1 : Tryz.prog.globalNamed "internal/strconv.uint64pow10" = some 1 := by kernel_rfl
theorem f16lg2 : (Tryz.prog.globals[1]?).map (·.type) = some 252 := by kernel_rfl
theorem f16lg3 : Tryz.prog.cellsOf 215 = 1 := by kernel_rfl
theorem f16lg4 : Tryz.prog.cellsOf 252 = 20 := by kernel_rfl
theorem f16ls1 : Tryz.prog.globalNamed "strconv.ErrSyntax" = some 2 := by kernel_rfl
theorem f16ls2 : (Tryz.prog.globals[2]?).map (·.type) = some 168 := by kernel_rfl
theorem f16lr1 : Tryz.prog.globalNamed "strconv.ErrRange" = some 3 := by kernel_rfl
theorem f16lr2 : (Tryz.prog.globals[3]?).map (·.type) = some 168 := by kernel_rfl
theorem f16le1 : Tryz.prog.cellsOf 277 = 1 := by kernel_rfl
theorem f16le2 : Tryz.prog.cellsOf 9 = 1 := by kernel_rfl
theorem f16lstar : "*errors.errorString" = "*" ++ "errors.errorString" := by decide
theorem f16lrow (u : TypeId) (h : Tryz.prog.typeName? 3 u = some "*errors.errorString") : u = 275 :=
  typeName_ptr_named (nm := "errors.errorString") (by rw [← f16lstar]; kernel_rfl) (by kernel_rfl) (by decide) u (by rw [← f16lstar]; exact h)
/-- one entry of the list -/
theorem f16pick_laid {W : World} {l : List (String × DataW Unit)} (h : laidMetH Tryz.prog l W) (keep : String × DataW Unit → Bool) (x : String × DataW Unit) (hx : l.filter keep = [x]) (hp : x.2.handleName?.isNone = true) : laidMet Tryz.prog [x] W := by
  have k := h.filter keep
  rw [hx, MakeChecks.laidMetH_plain _ _ _ (by simp [hp])] at k
  exact k
theorem glob_f {W : World} (h : laidMetH Tryz.prog Rows.unflatKnownRow.laid W) (hsh : W.ShapedOpen Tryz.prog) : GlobF W := by
  have h1 := f16pick_laid h (fun x => x.1 == "internal/strconv.uint64pow10") ("internal/strconv.uint64pow10", Rows.laid_internal_strconv_uint64pow10) (by kernel_rfl) (by kernel_rfl)
  have h2 := f16pick_laid h (fun x => x.1 == "strconv.ErrSyntax") ("strconv.ErrSyntax", Rows.laid_strconv_ErrSyntax) (by kernel_rfl) (by kernel_rfl)
  have h3 := f16pick_laid h (fun x => x.1 == "strconv.ErrRange") ("strconv.ErrRange", Rows.laid_strconv_ErrRange) (by kernel_rfl) (by kernel_rfl)
  obtain ⟨a0, s0, hv0, -, -, -⟩ := laid_sentinel h2 f16ls1 f16ls2 Tryz.underlying168 f16lrow Tryz.underlying275 Tryz.underlying277 rfl rfl Tryz.underlying9 f16le1 f16le2
  obtain ⟨a1, s1, hv1, -, -, -⟩ := laid_sentinel h3 f16lr1 f16lr2 Tryz.underlying168 f16lrow Tryz.underlying275 Tryz.underlying277 rfl rfl Tryz.underlying9 f16le1 f16le2
  have ht := Lib.tabIs_of_head (rest := []) (zs := Lib.pow10Tab) f16lg1 f16lg2 Tryz.underlying252 Tryz.underlying215 f16lg3 f16lg4 h1
  exact ⟨⟨⟨⟨_, _, hv0⟩, ⟨_, _, hv1⟩⟩, ht⟩, ⟨cell_of_shapedOpen_int (g := 0) (t := 3) (zero := #[.int .i64 0]) hsh (of_decide_eq_true (by kernel_rfl)) (by kernel_rfl) rfl (by kernel_rfl) (by kernel_rfl) Tryz.underlying3, ht, ⟨_, _, hv1⟩⟩⟩
end Go.Proofs.YtadbeodeiijhdaaGreatDoor
