import Derived.Handed
import Derived.HandedShaped
import Derived.Test.YtjcejjejlekelaaGreatDoorPathTwo
import Derived.Stop.LaidErr
import Derived.LaidSub
import Derived.MakeChecks
import Derived.Lib.LaidTab
import Derived.Shelf.Vars
import Derived.Test.YtjcejjejlekelaaGreatDoorPathOne
import Derived.WideShapes
/- A law's wrap that keeps both what its list of variables gives and the world's shape. -/
/- What the laws' list of variables and the world's shape give: the library's table of powers, its error, its greatest length. -/
/- An argument that is a path: its steps. -/
namespace Go.Proofs.YtjcejjejlekelaaGreatDoor

theorem shaped_and {H : Type} {enc : TypeId × Value → H} {a : Assume} {C : Checked} {os : Os} {f : FuncId} {fn : Func} {s : ChangeSpec} {conds : List PathCond} {apart fresh handsOn again : Bool} {X : World → Array Value → Prop}
    (hX : ∀ (w w' : World) (args : Array Value), w.heap = w'.heap → X w args → X w' args) (own : ownKnob C.prog.godebug = none) (started : os.Started) (noInit : C.prog.inits.idxOf? f = none) (hfn : C.prog.funcs[f]? = some fn)
    (seen : ∃ (w : World) (tape : Tape) (i : Input), w.os = os ∧ (w.forCall tape i).Shaped C.prog ∧ i.vars = [] ∧ Input.okWide C.prog (w.forCall tape i) .any w.heap.size f i ∧ ((s.pre enc C.prog fn conds apart (w.forCall tape i).memory i.args ∧ X (w.forCall tape i).memory i.args) ∧ sizedMet enc C.prog fn (OpenSpec.ofChange s) apart (w.forCall tape i).memory i.args) ∧ a.holds C.prog (lone (Frame.enter C.prog f i.args .normal) [] (w.forCall tape i)))
    (walk : ∀ (W : World) (base : Nat) (args : Array Value) (ds gs : List (DataW H)) (before : List MemPlace), (∀ (j : Nat) t v, fn.params[j]? = some t → args[j]? = some v → Value.okWide C.prog W .any base t v) → DataW.Whole enc C.prog fn.params.toList s.vars apart W args.toList ds gs before →
      conds.all (PathCond.test C.prog ⟨fn.params.toList, ds, s.plain.varTypes C.prog, gs⟩) = true → X W args → W.ShapedOpen C.prog → Calls C.prog f args W fun e W' => ∃ v, e = .returned v ∧ s.post enc C.prog fn apart fresh handsOn again W args v W') :
    ReturnsInHanded a C os f .any (fun w args => (s.pre enc C.prog fn conds apart w args ∧ X w args) ∧ sizedMet enc C.prog fn (OpenSpec.ofChange s) apart w args) (s.post enc C.prog fn apart fresh handsOn again) := by
  refine returnsInHanded_of_calls own started noInit seen fun w tape i _ shp _ wide pre _ => ?_
  obtain ⟨-, -, -, fn', hf', -, -, -, -, vals⟩ := wide
  obtain rfl : fn' = fn := Option.some.inj (hf'.symm.trans hfn)
  obtain ⟨⟨⟨ds, gs, before, whole, cond⟩, hx⟩, -⟩ := pre
  refine (walk _ w.heap.size i.args ds gs before vals (DataW.Whole.of_heap (w' := w.forCall tape i) (by rfl) whole) cond (hX _ _ _ (by rfl) hx) shp).mono ?_
  rintro e W' ⟨v, rfl, post⟩
  exact ChangeSpec.post_blind post
end Go.Proofs.YtjcejjejlekelaaGreatDoor
namespace Go.Proofs.YtjcejjejlekelaaGreatDoor
open Go.RowKit

theorem pg1 : Tryz.prog.globalNamed "internal/strconv.uint64pow10" = some 3 := by kernel_rfl
theorem pg2 : (Tryz.prog.globals[3]?).map (·.type) = some 172 := by kernel_rfl
theorem pg3 : Tryz.prog.cellsOf 158 = 1 := by kernel_rfl
theorem pg4 : Tryz.prog.cellsOf 172 = 20 := by kernel_rfl
theorem pr1 : Tryz.prog.globalNamed "strconv.ErrRange" = some 2 := by kernel_rfl
theorem pr2 : (Tryz.prog.globals[2]?).map (·.type) = some 85 := by kernel_rfl
theorem pe1 : Tryz.prog.cellsOf 185 = 1 := by kernel_rfl
theorem pe2 : Tryz.prog.cellsOf 9 = 1 := by kernel_rfl
theorem pstar : "*errors.errorString" = "*" ++ "errors.errorString" := by decide
theorem prw (u : TypeId) (h : Tryz.prog.typeName? 3 u = some "*errors.errorString") : u = 183 :=
  typeName_ptr_named (nm := "errors.errorString") (by rw [← pstar]; kernel_rfl) (by kernel_rfl) (by decide) u (by rw [← pstar]; exact h)
/-- one entry of the list -/
theorem ppick {W : World} {l : List (String × DataW Unit)} (h : laidMetH Tryz.prog l W) (keep : String × DataW Unit → Bool) (x : String × DataW Unit) (hx : l.filter keep = [x]) (hp : x.2.handleName?.isNone = true) : laidMet Tryz.prog [x] W := by
  have k := h.filter keep
  rw [hx, MakeChecks.laidMetH_plain _ _ _ (by simp [hp])] at k
  exact k
theorem glob_p {W : World} (h : laidMetH Tryz.prog Rows.pathKnownRow.laid W) (hsh : W.ShapedOpen Tryz.prog) : Glob5 W := by
  have h1 := ppick h (fun x => x.1 == "internal/strconv.uint64pow10") ("internal/strconv.uint64pow10", Rows.laid_internal_strconv_uint64pow10) (by kernel_rfl) (by kernel_rfl)
  have h3 := ppick h (fun x => x.1 == "strconv.ErrRange") ("strconv.ErrRange", Rows.laid_strconv_ErrRange) (by kernel_rfl) (by kernel_rfl)
  obtain ⟨a1, s1, hv1, -, -, -⟩ := laid_sentinel h3 pr1 pr2 Tryz.underlying85 prw Tryz.underlying183 Tryz.underlying185 rfl rfl Tryz.underlying9 pe1 pe2
  exact ⟨cell_of_shapedOpen_int (g := 0) (t := 3) (zero := #[.int .i64 0]) hsh (of_decide_eq_true (by kernel_rfl)) (by kernel_rfl) rfl (by kernel_rfl) (by kernel_rfl) Tryz.underlying3, Lib.tabIs_of_head (rest := []) (zs := Lib.pow10Tab) pg1 pg2 Tryz.underlying172 Tryz.underlying158 pg3 pg4 h1, ⟨_, _, hv1⟩⟩
end Go.Proofs.YtjcejjejlekelaaGreatDoor
namespace Go.Proofs.YtjcejjejlekelaaGreatDoor
open Go.RowKit Go.WideShapes

theorem Tryz.cellsSt : Tryz.prog.cellsOf 36 = 3 := by kernel_rfl
theorem Tryz.cellsIn : Tryz.prog.cellsOf 3 = 1 := by kernel_rfl
theorem Tryz.cellsBo : Tryz.prog.cellsOf 4 = 1 := by kernel_rfl
theorem cells3 {w : World} {base : Nat} {a : Addr} {cs : List Value} (h : w.cells? base a 3 = some cs) : ∃ c0 c1 c2, cs = [c0, c1, c2] ∧ w.cell? a = some c0 ∧ w.cell? ⟨a.block, a.off + 1, none⟩ = some c1 ∧ w.cell? ⟨a.block, a.off + 2, none⟩ = some c2 := by
  unfold World.cells? at h
  split at h
  · simp only [show List.range 3 = [0, 1, 2] from rfl, List.mapM_cons, List.mapM_nil] at h
    rw [show a.add 0 = a by simp [Addr.add]] at h
    cases h0 : w.cell? a <;> simp [h0] at h
    cases h1 : w.cell? (a.add 1) <;> simp [h1] at h
    cases h2 : w.cell? (a.add 2) <;> simp [h2] at h
    exact ⟨_, _, _, h.symm, rfl, h1, h2⟩
  · cases h
theorem steps_of {H : Type} {enc : TypeId × Value → H} {w : World} {base : Nat} {spare : Nat → Bool} {held : Bool} (fuel : Nat) (v : Value) (x : DataW H × List MemPlace) (h : DataW.trod enc Tryz.prog w base spare held fuel 23 [v] = some x) : ∃ ps : List PStep, InP w ps v := by
  rcases DataW.trod_slice Tryz.underlying23 h with ⟨hc, -⟩ | ⟨a, len, cap, elems, rest, m2, hm2, hc, -, -, hlc, hcm, hel, hget, -, -⟩
  · cases hc
    exact ⟨[], default, ⟨none, 0, rfl, Nat.le_refl _, Nat.zero_le _, fun h => absurd h (by simp)⟩, fun i t h => by simp at h⟩
  · cases hc
    have key : ∀ i, ∃ r : PStep, i < len → w.cell? (a.add (i * 3)) = some (.string r.key) ∧ w.cell? ⟨(a.add (i * 3)).block, (a.add (i * 3)).off + 1, none⟩ = some (.int .i64 r.at_) ∧ w.cell? ⟨(a.add (i * 3)).block, (a.add (i * 3)).off + 2, none⟩ = some (.bool r.place) ∧ r.key.size ≤ maxLen := by
      intro i
      by_cases hi : i < len
      · obtain ⟨z, ez⟩ := some_at hel hi
        have hg := (hget i hi).trans ez
        rw [Tryz.cellsSt] at hg
        obtain ⟨cs', h1, h2⟩ := Option.bind_eq_some_iff.1 hg
        obtain ⟨ys, m3, hm3, -, hl2, hlen2, hf2⟩ := DataW.trod_struct Tryz.underlying36 h2
        obtain ⟨d0, d1, d2, he, g0, g1, g2⟩ := cells3 h1
        cases he
        have hlen2' : ys.length = 3 := hlen2
        obtain ⟨z0, ez0⟩ := some_at hlen2' (show 0 < 3 by omega)
        obtain ⟨z1, ez1⟩ := some_at hlen2' (show 1 < 3 by omega)
        obtain ⟨z2, ez2⟩ := some_at hlen2' (show 2 < 3 by omega)
        have k0 : DataW.trod enc Tryz.prog w base spare held m3 9 [d0] = some z0 := by
          have := (hf2 0 { name := "Key", type := 9, offset := 0, embedded := false, tag := "", pkgPath := "", byteOffset := 0 } rfl).trans ez0
          dsimp only at this
          rw [Tryz.cells9] at this
          exact this
        have k1 : DataW.trod enc Tryz.prog w base spare held m3 3 [d1] = some z1 := by
          have := (hf2 1 { name := "At", type := 3, offset := 1, embedded := false, tag := "", pkgPath := "", byteOffset := 16 } rfl).trans ez1
          dsimp only at this
          rw [Tryz.cellsIn] at this
          exact this
        have k2 : DataW.trod enc Tryz.prog w base spare held m3 4 [d2] = some z2 := by
          have := (hf2 2 { name := "Place", type := 4, offset := 2, embedded := false, tag := "", pkgPath := "", byteOffset := 24 } rfl).trans ez2
          dsimp only at this
          rw [Tryz.cellsBo] at this
          exact this
        obtain ⟨u, hu0, -, hu⟩ := DataW.trod_string Tryz.underlying9 k0
        cases hu0
        obtain ⟨n, hn0, -, -⟩ := DataW.trod_int Tryz.underlying3 k1
        cases hn0
        obtain ⟨b, hb0, -⟩ := DataW.trod_bool Tryz.underlying4 k2
        cases hb0
        exact ⟨⟨u, n, b⟩, fun _ => ⟨g0, g1, g2, hu⟩⟩
      · exact ⟨⟨⟨#[]⟩, 0, false⟩, fun h => absurd h hi⟩
    obtain ⟨F, hF⟩ := Classical.axiomOfChoice key
    refine ⟨(List.range len).map F, a, ⟨some a, cap, by simp, by simpa using hlc, hcm, fun _ => rfl⟩, fun i c h => ?_⟩
    rw [List.getElem?_map] at h
    by_cases hi : i < len
    · rw [List.getElem?_range hi] at h; simp at h; subst h; exact hF i hi
    · rw [List.getElem?_eq_none (by simp; omega)] at h; simp at h
set_option maxRecDepth 100000 in
theorem open_path {H : Type} {enc : TypeId × Value → H} {w W : World} {base b : Nat} {r : Reach} {spare : Nat → Bool} {held : Bool} {v : Value} {d : DataW H} {ps : List MemPlace}
    (hv : Value.okWide Tryz.prog W r b 23 v) (h : DataW.Trod enc Tryz.prog w base spare held 23 v d ps) : ∃ ks : List PStep, InP w ks v := by
  obtain ⟨a, len, cap, rfl⟩ := okWide_slice Tryz.underlying23 hv
  obtain ⟨fuel, hf⟩ := h
  exact steps_of fuel _ _ (by simpa [Value.cells] using hf)
end Go.Proofs.YtjcejjejlekelaaGreatDoor
