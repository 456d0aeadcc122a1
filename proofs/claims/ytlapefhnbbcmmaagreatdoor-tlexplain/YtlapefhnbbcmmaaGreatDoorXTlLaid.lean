/- TlexPlain. -/
import Derived.Test.YtlapefhnbbcmmaaGreatDoorXRtV
import Derived.Test.YtlapefhnbbcmmaaGreatDoorXEscTun
import Derived.Test.YtlapefhnbbcmmaaGreatDoorXRefVal4
import Derived.Handed
import Derived.HandedShaped
import Derived.Test.YtlapefhnbbcmmaaGreatDoorXTlK
import Derived.Stop.LaidErr
import Derived.LaidSub
import Derived.MakeChecks
import Derived.Lib.LaidU8
import Derived.Shelf.Vars
import Derived.WideShapes
/- What the laws' list of variables and the world's shape give: the library's two errors, its greatest length, the heads of ints that say their base. -/
namespace Go.Proofs.YtlapefhnbbcmmaaGreatDoor
open Go.RowKit

theorem leaf_same (k n : Int) (s : ByteArray) : sameT false (leafT k n s) (leafT k n s) = true := by
  unfold leafT
  rw [sameT_eq]
  simp [VT.kd, VT.nm, VT.st, VT.ls, VT.vs, VT.ks, sameL, strB]
/-- a value without parts that memory may hold -/
def Lf (T : VT) : Prop := ∃ k n s, T = leafT k n s ∧ (Lit.int .i64 k).wf = true ∧ (Lit.int .i64 n).wf = true ∧ s.size ≤ maxLen
theorem lf_zero : Lf zeroT := ⟨0, 0, ⟨#[]⟩, rfl, by decide, by decide, by decide⟩
theorem wf_of {v : Int} (h1 : -9223372036854775808 ≤ v) (h2 : v < 9223372036854775808) : (Lit.int .i64 v).wf = true := by
  simp [Lit.wf, IntKind.min, IntKind.max, IntKind.signed, IntKind.bits]; omega
theorem piV_bd {l : List UInt8} {v : Int} (h : piV l = some v) : -9223372036854775808 ≤ v ∧ v < 9223372036854775808 := by
  unfold piV at h
  cases hq : Lib.parseIntB 64 l with
  | ok u =>
    rw [hq] at h
    simp only [Option.some.injEq] at h
    subst h
    unfold Lib.parseIntB at hq
    cases l with
    | nil => simp at hq
    | cons c r =>
      simp only at hq
      cases hu : Lib.parseUintB 64 (if c.toNat = 43 ∨ c.toNat = 45 then r else c :: r) with
      | ok x =>
        rw [hu] at hq
        simp only at hq
        split at hq
        · cases hq
        · rename_i k1
          split at hq
          · cases hq
          · rename_i k2
            simp at k1 k2
            cases hq
            split
            · rename_i hn; have := k2 hn; omega
            · rename_i hn; have := k1 hn; omega
      | _ => rw [hu] at hq; cases hq
  | _ => rw [hq] at h; cases h
theorem lf_int {o : Option Int} (h : ∀ v, o = some v → -9223372036854775808 ≤ v ∧ v < 9223372036854775808) : Lf (intR o) := by
  cases o with
  | none => exact lf_zero
  | some v => exact ⟨2, v, ⟨#[]⟩, rfl, by decide, wf_of (h v rfl).1 (h v rfl).2, by decide⟩
theorem lf_tn (l : List UInt8) (hl : l.length ≤ 1000000) : Lf (tnR l) := by
  unfold tnR
  split
  · exact ⟨7, 0, mkS l, rfl, by decide, by decide, by rw [mkS_size]; unfold maxLen; omega⟩
  · split
    · refine lf_int fun v hv => ?_
      unfold psV at hv
      split at hv
      · cases hv; omega
      · cases hv
    · split
      · exact lf_int fun v hv => piV_bd hv
      · split
        · unfold nuR numR
          rw [mkS_list]
          split
          · split
            · exact ⟨2, intV _, ⟨#[]⟩, rfl, by decide, intV_wf _, by decide⟩
            · rename_i hn _
              refine ⟨3, 0, _, rfl, by decide, by decide, ?_⟩
              rw [mkS_size]
              unfold numB at hn
              simp only [Bool.and_eq_true, decide_eq_true_eq] at hn
              unfold maxLen; omega
          · exact lf_zero
        · exact lf_zero
theorem lf_stamp (s : ByteArray) : Lf (stampR s) := by
  unfold stampR
  split
  · rename_i h
    unfold stampB at h
    simp only [Bool.and_eq_true, decide_eq_true_eq] at h
    exact ⟨7, 0, s, rfl, by decide, by decide, by unfold maxLen; omega⟩
  · exact lf_zero
theorem lf_pl (T : List UInt8) (a : Int) (hT : T.length ≤ 1000000) : Lf (plT T a).v := by
  unfold plT
  split
  · exact lf_zero
  · unfold plN
    split
    · unfold psT
      split
      · exact lf_zero
      · split
        · exact lf_zero
        · rename_i h
          refine ⟨4, 0, _, rfl, by decide, by decide, ?_⟩
          have h0 : teI (mkS (unqT T ((a.toNat : Nat) : Int)).1) = 0 := by simpa using h
          unfold teI at h0
          split at h0
          · split at h0
            · cases h0
            · rename_i k; unfold maxLen; omega
          · cases h0
    · unfold plQ
      split
      · exact ⟨1, 1, ⟨#[]⟩, rfl, by decide, by decide, by decide⟩
      · split
        · exact ⟨1, 0, ⟨#[]⟩, rfl, by decide, by decide, by decide⟩
        · split
          · exact lf_stamp _
          · split
            · exact lf_zero
            · refine lf_tn _ ?_
              unfold plW slc
              have := List.length_take_le (plE T a.toNat - a.toNat) (T.drop a.toNat)
              rw [List.length_take, List.length_drop]; omega
theorem lf_call {T : VT} (h : Lf T) : ∃ k n s, vv T nilS nilS = .agg #[.int .i64 k, .int .i64 n, .string s, nilS, nilS] ∧ ∀ X, Calls Tryz.prog 10 #[.agg #[.int .i64 k, .int .i64 n, .string s, nilS, nilS], .agg #[.int .i64 k, .int .i64 n, .string s, nilS, nilS], .bool false] X fun e w' => e = .returned (.bool true) ∧ Below X.heap.size X w' := by
  obtain ⟨k, n, s, rfl, h1, h2, h3⟩ := h
  refine ⟨k, n, s, rfl, fun X => ?_⟩
  have := same_any 1 (leafT k n s) (leafT k n s) nilS nilS nilS nilS false X (by unfold leafT; simp [szT, szL]) (hv_leaf X k n s h1 h2 h3) (hv_leaf X k n s h1 h2 h3)
  rw [leaf_same] at this
  exact this
set_option maxRecDepth 100000 in
set_option maxHeartbeats 8000000 in
theorem tplain_law (t : ByteArray) (a : Int) (w : World) (hg : GlobN w) (ht : t.size ≤ 700) :
    Calls Tryz.prog 4 #[.string t, .int .i64 a] w fun e w' => e = .returned (.bool true) ∧ Below w.heap.size w w' := by
  have CA := hid (awake10 w hg)
  have HG := hid hg
  have C1 := hid (fun X (hX : Below w.heap.size w X) => tplain_any t a X (by omega) (hg.on hX))
  have C2 := hid (fun X => rplain_any t a X (by omega))
  have C3 := hid (fun X (hX : Below w.heap.size w X) => tnumber_any t X (by omega) (hg.on hX))
  have C4 := hid (fun X => rnumber_any t X (by omega))
  have C5 := hid (fun X (hX : Below w.heap.size w X) => tstamp_any t X (by omega) (hg.on hX).t.m)
  have C6 := hid (fun X => rstamp_any t X (by omega))
  rw [dn_same, nq_tn] at C4
  rw [ds_same] at C6
  obtain ⟨k, n, s, e1, hS1⟩ := lf_call (lf_pl t.data.toList a (by rw [size_list]; omega))
  obtain ⟨k', n', s', e2, hS2⟩ := lf_call (lf_tn t.data.toList (by rw [size_list]; omega))
  unfold PR.V at C1 C2
  rw [e1] at C1 C2
  rw [e2] at C3 C4
  have S1 := hid hS1
  have S2 := hid hS2
  generalize (plT t.data.toList a).n = pn at *
  generalize (plT t.data.toList a).e = pe at *
  generalize (plT t.data.toList a).b = pb at *
  generalize tnE t.data.toList = te at *
  generalize stB t.data.toList = st at *
  clear e1 e2 hS1 hS2 hg
  have hz : ¬ (700 : Int) < (t.size : Int) := by omega
  go_enter Tryz.func4, Tryz.ntmps4
  go_wp2_with fail
  go_at_call 5
  refine CA.out.mono ?_
  rintro e w0 ⟨rfl, hb0⟩
  have HB0 := hid hb0
  have D1 := hid (C1.out w0 hb0)
  clear hb0 CA C1
  go_wp2_with fail
  go_at_call 7
  refine D1.out.mono ?_
  rintro e w1 ⟨rfl, hb1⟩
  have HB1 := hid (vonto HB0.out hb1)
  clear hb1 D1 HB0
  go_upto_region 6 with fail
  refine pwp_gen ?_
  intro W1 hW1
  obtain ⟨f0, f1, f2, f3, f4⟩ := pbox w1 (.int .i64 k) (.int .i64 n) (.string s) nilS nilS
  have hbW : Below w1.heap.size w1 W1 := by rw [hW1]; exact valloc_bel (Below.refl _ _) _
  rw [← hW1] at f0 f1 f2 f3 f4
  have HBW := hid (vonto HB1.out hbW)
  clear hW1 hbW HB1
  go_wp2_with fail
  go_at_call 9
  refine (C2.out _).mono ?_
  rintro e w2 ⟨rfl, hb2⟩
  replace f0 := keepCell hb2 f0
  replace f1 := keepCell hb2 f1
  replace f2 := keepCell hb2 f2
  replace f3 := keepCell hb2 f3
  replace f4 := keepCell hb2 f4
  have HB2 := hid (vonto HBW.out hb2)
  clear hb2 C2 HBW
  go_upto_region 7 with fail
  refine pwp_gen ?_
  intro W2 hW2
  obtain ⟨h0, h1, h2, h3, h4⟩ := pbox w2 (.int .i64 k) (.int .i64 n) (.string s) nilS nilS
  have hbW : Below w2.heap.size w2 W2 := by rw [hW2]; exact valloc_bel (Below.refl _ _) _
  rw [← hW2] at h0 h1 h2 h3 h4
  replace f0 := keepCell hbW f0
  replace f1 := keepCell hbW f1
  replace f2 := keepCell hbW f2
  replace f3 := keepCell hbW f3
  replace f4 := keepCell hbW f4
  have HBV := hid (vonto HB2.out hbW)
  clear hW2 hbW HB2
  go_wp2_with fail
  go_at_call 10
  refine (S1.out _).mono ?_
  rintro e w3 ⟨rfl, hb3⟩
  have HB3 := hid (vonto HBV.out hb3)
  have D3 := hid (C3.out w3 HB3.out)
  clear hb3 S1 HBV f0 f1 f2 f3 f4 h0 h1 h2 h3 h4 C3
  go_wp2_with fail
  go_at_call 6
  refine D3.out.mono ?_
  rintro e w4 ⟨rfl, hb4⟩
  have HB4 := hid (vonto HB3.out hb4)
  clear hb4 D3 HB3
  go_upto_region 10 with fail
  refine pwp_gen ?_
  intro W3 hW3
  obtain ⟨f0, f1, f2, f3, f4⟩ := pbox w4 (.int .i64 k') (.int .i64 n') (.string s') nilS nilS
  have hbW : Below w4.heap.size w4 W3 := by rw [hW3]; exact valloc_bel (Below.refl _ _) _
  rw [← hW3] at f0 f1 f2 f3 f4
  have HBW := hid (vonto HB4.out hbW)
  clear hW3 hbW HB4
  go_wp2_with fail
  go_at_call 11
  refine (C4.out _).mono ?_
  rintro e w5 ⟨rfl, hb5⟩
  replace f0 := keepCell hb5 f0
  replace f1 := keepCell hb5 f1
  replace f2 := keepCell hb5 f2
  replace f3 := keepCell hb5 f3
  replace f4 := keepCell hb5 f4
  have HB5 := hid (vonto HBW.out hb5)
  clear hb5 C4 HBW
  go_upto_region 11 with fail
  refine pwp_gen ?_
  intro W4 hW4
  obtain ⟨h0, h1, h2, h3, h4⟩ := pbox w5 (.int .i64 k') (.int .i64 n') (.string s') nilS nilS
  have hbW : Below w5.heap.size w5 W4 := by rw [hW4]; exact valloc_bel (Below.refl _ _) _
  rw [← hW4] at h0 h1 h2 h3 h4
  replace f0 := keepCell hbW f0
  replace f1 := keepCell hbW f1
  replace f2 := keepCell hbW f2
  replace f3 := keepCell hbW f3
  replace f4 := keepCell hbW f4
  have HBV := hid (vonto HB5.out hbW)
  clear hW4 hbW HB5
  go_wp2_with fail
  go_at_call 10
  refine (S2.out _).mono ?_
  rintro e w6 ⟨rfl, hb6⟩
  have HB6 := hid (vonto HBV.out hb6)
  have D5 := hid (C5.out w6 HB6.out)
  clear hb6 S2 HBV f0 f1 f2 f3 f4 h0 h1 h2 h3 h4 C5
  go_wp2_with fail
  go_at_call 8
  refine D5.out.mono ?_
  rintro e w7 ⟨rfl, hb7⟩
  have HB7 := hid (vonto HB6.out hb7)
  clear hb7 D5 HB6
  go_wp2_with fail
  go_at_call 12
  refine (C6.out _).mono ?_
  rintro e w8 ⟨rfl, hb8⟩
  have HB8 := hid (vonto HB7.out hb8)
  clear hb8 C6 HB7
  cases st
  · go_wp2_with fail
    go_ret
    exact ⟨rfl, HB8.out⟩
  · go_wp2_with fail
    go_ret
    exact ⟨rfl, HB8.out⟩
set_option maxRecDepth 100000 in
set_option maxHeartbeats 2000000 in
theorem Tryz.tlexPlain_walk (t : ByteArray) (a : Int) (_w0 : t.size ≤ maxLen) (_w1 : (Lit.int .i64 a).wf = true) (w : World) (hg : GlobN w) :
    Calls Tryz.prog 4 #[.string t, .int .i64 a] w fun e w' => e = .returned (.bool true) ∧ Below w.heap.size w w' := by
  by_cases h : t.size ≤ 700
  · exact tplain_law t a w hg h
  · have CA := hid (awake10 w hg)
    have h' : (700 : Int) < (t.size : Int) := by omega
    clear h
    go_enter Tryz.func4, Tryz.ntmps4
    go_wp2_with (go_at_call 5; go_must (refine CA.out.mono ?_; rintro e w0 ⟨rfl, hb0⟩))
    go_ret
    exact ⟨rfl, hb0⟩
end Go.Proofs.YtlapefhnbbcmmaaGreatDoor
namespace Go.Proofs.YtlapefhnbbcmmaaGreatDoor

theorem tshaped_and {H : Type} {enc : TypeId × Value → H} {a : Assume} {C : Checked} {os : Os} {f : FuncId} {fn : Func} {s : ChangeSpec} {conds : List PathCond} {apart fresh handsOn again : Bool} {X : World → Array Value → Prop}
    (hX : ∀ (w w' : World) (args : Array Value), w.heap = w'.heap → X w args → X w' args) (own : ownKnob C.prog.godebug = none) (started : os.Started) (noInit : C.prog.inits.idxOf? f = none) (hfn : C.prog.funcs[f]? = some fn)
    (seen : ∃ (w : World) (tape : Tape) (i : Input), w.os = os ∧ (w.forCall tape i).Shaped C.prog ∧ i.vars = [] ∧ Input.okWide C.prog (w.forCall tape i) .any w.heap.size f i ∧ ((s.pre enc C.prog fn conds apart (w.forCall tape i).memory i.args ∧ X (w.forCall tape i).memory i.args) ∧ sizedMet enc C.prog fn (OpenSpec.ofChange s) apart (w.forCall tape i).memory i.args) ∧ a.holds C.prog (lone (Frame.enter C.prog f i.args .normal) [] (w.forCall tape i)))
    (walk : ∀ (W : World) (base : Nat) (args : Array Value) (ds gs : List (DataW H)) (before : List MemPlace), (∀ (j : Nat) t v, fn.params[j]? = some t → args[j]? = some v → Value.okWide C.prog W .any base t v) → DataW.Whole enc C.prog fn.params.toList s.vars apart W args.toList ds gs before →
      conds.all (PathCond.test C.prog ⟨fn.params.toList, ds, s.plain.varTypes C.prog, gs⟩) = true → X W args → W.ShapedOpen C.prog → Calls C.prog f args W fun e W' => ∃ v, e = .returned v ∧ s.post enc C.prog fn apart fresh handsOn again W args v W') :
    ReturnsInHanded a C os f .any (fun w args => (s.pre enc C.prog fn conds apart w args ∧ X w args) ∧ sizedMet enc C.prog fn (OpenSpec.ofChange s) apart w args) (s.post enc C.prog fn apart fresh handsOn again) := by
  refine returnsInHanded_of_calls own started noInit seen fun w tape i _ shp _ wide pre _ => ?_
  obtain ⟨-, -, -, fn', hf', -, -, -, -, vals⟩ := wide
  obtain rfl : fn' = fn := Option.some.inj (hf'.symm.trans hfn)
  obtain ⟨⟨⟨ds, gs, before, whole, cond⟩, hx⟩, -⟩ := pre
  refine (walk _ w.heap.size i.args ds gs before vals (DataW.Whole.of_heap (w' := w.forCall tape i) (by rfl) whole) cond (hX _ _ _ (by rfl) hx) shp).mono ?_
  rintro e W' ⟨v, rfl, post⟩
  exact ChangeSpec.post_blind post
end Go.Proofs.YtlapefhnbbcmmaaGreatDoor
namespace Go.Proofs.YtlapefhnbbcmmaaGreatDoor
open Go.RowKit

theorem tls1 : Tryz.prog.globalNamed "strconv.ErrSyntax" = some 1 := by kernel_rfl
theorem tls2 : (Tryz.prog.globals[1]?).map (·.type) = some 74 := by kernel_rfl
theorem tlr1 : Tryz.prog.globalNamed "strconv.ErrRange" = some 2 := by kernel_rfl
theorem tlr2 : (Tryz.prog.globals[2]?).map (·.type) = some 74 := by kernel_rfl
theorem tle1 : Tryz.prog.cellsOf 153 = 1 := by kernel_rfl
theorem tle2 : Tryz.prog.cellsOf 9 = 1 := by kernel_rfl
theorem tle3 : Tryz.prog.cellsOf 3 = 1 := by kernel_rfl
theorem tlb1 : Tryz.prog.globalNamed "dragoman/tlex.bases" = some 0 := by kernel_rfl
theorem tlb2 : (Tryz.prog.globals[0]?).map (·.type) = some 69 := by kernel_rfl
theorem tlstar : "*errors.errorString" = "*" ++ "errors.errorString" := by decide
theorem tlrow (u : TypeId) (h : Tryz.prog.typeName? 3 u = some "*errors.errorString") : u = 151 :=
  typeName_ptr_named (nm := "errors.errorString") (by rw [← tlstar]; kernel_rfl) (by kernel_rfl) (by decide) u (by rw [← tlstar]; exact h)
/-- one entry of the list -/
theorem tpick {W : World} {l : List (String × DataW Unit)} (h : laidMetH Tryz.prog l W) (keep : String × DataW Unit → Bool) (x : String × DataW Unit) (hx : l.filter keep = [x]) (hp : x.2.handleName?.isNone = true) : laidMet Tryz.prog [x] W := by
  have k := h.filter keep
  rw [hx, MakeChecks.laidMetH_plain _ _ _ (by simp [hp])] at k
  exact k
/-- a head, its digits, its base, cell for cell -/
theorem trip_of {w : World} {base : Nat} {sp : Nat → Bool} {held : Bool} {fuel : Nat} {cs : List Value} {a b : List UInt8} {c : Int} {p : List MemPlace}
    (h : DataW.trod (fun _ => ()) Tryz.prog w base sp held fuel 68 cs = some (.agg [.lit (.string a), .lit (.string b), .lit (.int .i64 c)], p)) : cs[0]? = some (.string (mkS a)) ∧ cs[1]? = some (.string (mkS b)) ∧ cs[2]? = some (.int .i64 c) := by
  obtain ⟨xs, n, rfl, hx, hl, hxl, hall⟩ := DataW.trod_struct Tryz.underlying68 h
  have h0 := hall 0 _ rfl
  have h1 := hall 1 _ rfl
  have h2 := hall 2 _ rfl
  have hxs : xs.map (·.1) = [.lit (.string a), .lit (.string b), .lit (.int .i64 c)] := by
    have := congrArg Prod.fst hx
    simpa using this.symm
  obtain ⟨x0, x1, x2, rfl⟩ : ∃ x0 x1 x2, xs = [x0, x1, x2] := by
    have := congrArg List.length hxs
    match xs, this with
    | [x0, x1, x2], _ => exact ⟨x0, x1, x2, rfl⟩
  simp only [List.map_cons, List.map_nil, List.cons.injEq, and_true] at hxs
  simp only [List.getElem?_cons_zero, List.getElem?_cons_succ] at h0 h1 h2
  obtain ⟨s0, c0, e0, -⟩ := DataW.trod_string Tryz.underlying9 h0
  obtain ⟨s1, c1, e1, -⟩ := DataW.trod_string Tryz.underlying9 h1
  obtain ⟨n2, c2, e2, -⟩ := DataW.trod_int Tryz.underlying3 h2
  rw [e0, e1, e2] at hxs
  simp only [DataW.lit.injEq, Lit.string.injEq, Lit.int.injEq, true_and] at hxs
  have c0' : (cs.drop 0).take (Tryz.prog.cellsOf 9) = [.string s0] := c0
  have c1' : (cs.drop 1).take (Tryz.prog.cellsOf 9) = [.string s1] := c1
  have c2' : (cs.drop 2).take (Tryz.prog.cellsOf 3) = [.int .i64 n2] := c2
  rw [tle2] at c0' c1'
  rw [tle3] at c2'
  obtain ⟨k0, k1, k2⟩ := hxs
  refine ⟨?_, ?_, ?_⟩
  · have := congrArg (·[0]?) c0'
    rw [← k0, ← self_str s0]
    simpa [List.getElem?_take, List.getElem?_drop] using this
  · have := congrArg (·[0]?) c1'
    rw [← k1, ← self_str s1]
    simpa [List.getElem?_take, List.getElem?_drop] using this
  · have := congrArg (·[0]?) c2'
    rw [← k2]
    simpa [List.getElem?_take, List.getElem?_drop] using this
theorem tlc : Tryz.prog.cellsOf 68 = 3 := by kernel_rfl
theorem bas_datum : (Rows.laid_dragoman_tlex_bases : DataW Unit) = .agg [.agg [.lit (.string [48, 120]), .lit (.string [48, 49, 50, 51, 52, 53, 54, 55, 56, 57, 97, 98, 99, 100, 101, 102, 65, 66, 67, 68, 69, 70]), .lit (.int .i64 16)], .agg [.lit (.string [48, 111]), .lit (.string [48, 49, 50, 51, 52, 53, 54, 55]), .lit (.int .i64 8)], .agg [.lit (.string [48, 98]), .lit (.string [48, 49]), .lit (.int .i64 2)]] := by kernel_rfl
theorem globb_of {W : World} (h : Lib.VarReads Tryz.prog W "dragoman/tlex.bases" Rows.laid_dragoman_tlex_bases) : GlobB W := by
  obtain ⟨g, t, cs, fuel, p, h1, h2, h3, h4⟩ := h
  obtain rfl : g = 0 := Option.some.inj (h1.symm.trans tlb1)
  obtain rfl : t = 69 := Option.some.inj (h2.symm.trans tlb2)
  rw [bas_datum] at h4
  have hc := fun i => World.var?_cell tlb1 h3 i
  have key : ∀ i, i < 3 → ∃ a b c, ([([48, 120], [48, 49, 50, 51, 52, 53, 54, 55, 56, 57, 97, 98, 99, 100, 101, 102, 65, 66, 67, 68, 69, 70], 16), ([48, 111], [48, 49, 50, 51, 52, 53, 54, 55], 8), ([48, 98], [48, 49], 2)] : List (List UInt8 × List UInt8 × Int))[i]? = some (a, b, c) ∧ cs[i * 3]? = some (.string (mkS a)) ∧ cs[i * 3 + 1]? = some (.string (mkS b)) ∧ cs[i * 3 + 2]? = some (.int .i64 c) := by
    intro i hi
    obtain ⟨fuel', d, q, hd, hf⟩ := Lib.array_elem Tryz.underlying69 h4 i hi
    rw [tlc] at hf
    have hi3 : i = 0 ∨ i = 1 ∨ i = 2 := by omega
    rcases hi3 with rfl | rfl | rfl
    · cases hd
      obtain ⟨a0, a1, a2⟩ := trip_of hf
      exact ⟨_, _, _, rfl, by simpa [List.getElem?_take, List.getElem?_drop] using a0, by simpa [List.getElem?_take, List.getElem?_drop] using a1, by simpa [List.getElem?_take, List.getElem?_drop] using a2⟩
    · cases hd
      obtain ⟨a0, a1, a2⟩ := trip_of hf
      exact ⟨_, _, _, rfl, by simpa [List.getElem?_take, List.getElem?_drop] using a0, by simpa [List.getElem?_take, List.getElem?_drop] using a1, by simpa [List.getElem?_take, List.getElem?_drop] using a2⟩
    · cases hd
      obtain ⟨a0, a1, a2⟩ := trip_of hf
      exact ⟨_, _, _, rfl, by simpa [List.getElem?_take, List.getElem?_drop] using a0, by simpa [List.getElem?_take, List.getElem?_drop] using a1, by simpa [List.getElem?_take, List.getElem?_drop] using a2⟩
  obtain ⟨_, _, _, r0, p0, p1, p2⟩ := key 0 (by decide)
  obtain ⟨_, _, _, r1, p3, p4, p5⟩ := key 1 (by decide)
  obtain ⟨_, _, _, r2, p6, p7, p8⟩ := key 2 (by decide)
  cases r0; cases r1; cases r2
  intro i v hv
  rw [hc]
  match i, hv with
  | 0, hv => cases hv; exact p0
  | 1, hv => cases hv; exact p1
  | 2, hv => cases hv; exact p2
  | 3, hv => cases hv; exact p3
  | 4, hv => cases hv; exact p4
  | 5, hv => cases hv; exact p5
  | 6, hv => cases hv; exact p6
  | 7, hv => cases hv; exact p7
  | 8, hv => cases hv; exact p8
  | i + 9, hv => simp [basC] at hv
theorem globn_gen {W : World} {l : List (String × DataW Unit)} (h : laidMetH Tryz.prog l W) (hsh : W.ShapedOpen Tryz.prog) (e1 : l.filter (fun x => x.1 == "strconv.ErrSyntax") = [("strconv.ErrSyntax", Rows.laid_strconv_ErrSyntax)]) (e2 : l.filter (fun x => x.1 == "strconv.ErrRange") = [("strconv.ErrRange", Rows.laid_strconv_ErrRange)])
    (e3 : l.filter (fun x => x.1 == "dragoman/tlex.bases") = [("dragoman/tlex.bases", Rows.laid_dragoman_tlex_bases)]) : GlobN W := by
  have h2 := tpick h (fun x => x.1 == "strconv.ErrSyntax") ("strconv.ErrSyntax", Rows.laid_strconv_ErrSyntax) e1 (by kernel_rfl)
  have h3 := tpick h (fun x => x.1 == "strconv.ErrRange") ("strconv.ErrRange", Rows.laid_strconv_ErrRange) e2 (by kernel_rfl)
  have h4 := tpick h (fun x => x.1 == "dragoman/tlex.bases") ("dragoman/tlex.bases", Rows.laid_dragoman_tlex_bases) e3 (by kernel_rfl)
  obtain ⟨a0, s0, hv0, -, -, -⟩ := laid_sentinel h2 tls1 tls2 Tryz.underlying74 tlrow Tryz.underlying151 Tryz.underlying153 rfl rfl Tryz.underlying9 tle1 tle2
  obtain ⟨a1, s1, hv1, -, -, -⟩ := laid_sentinel h3 tlr1 tlr2 Tryz.underlying74 tlrow Tryz.underlying151 Tryz.underlying153 rfl rfl Tryz.underlying9 tle1 tle2
  exact ⟨⟨⟨⟨_, _, hv0⟩, ⟨_, _, hv1⟩⟩, cell_of_shapedOpen_int (g := 3) (t := 3) (zero := #[.int .i64 0]) hsh (of_decide_eq_true (by kernel_rfl)) (by kernel_rfl) rfl (by kernel_rfl) (by kernel_rfl) Tryz.underlying3⟩, globb_of (Lib.laidMet.reads h4 (List.mem_singleton.2 rfl))⟩
theorem globn {W : World} (h : laidMetH Tryz.prog Rows.tlexKnownRow.laid W) (hsh : W.ShapedOpen Tryz.prog) : GlobN W := globn_gen h hsh (by kernel_rfl) (by kernel_rfl) (by kernel_rfl)
end Go.Proofs.YtlapefhnbbcmmaaGreatDoor
