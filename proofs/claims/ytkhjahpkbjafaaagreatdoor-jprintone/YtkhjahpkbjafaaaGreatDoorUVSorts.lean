
import Derived.Test.YtkhjahpkbjafaaaGreatDoorUVBase
import Derived.Test.YtkhjahpkbjafaaaGreatDoorUVHold
import Derived.Test.YtkhjahpkbjafaaaGreatDoorUShelf
import Derived.Test.YtkhjahpkbjafaaaGreatDoorUShelf2
import Derived.Test.YtkhjahpkbjafaaaGreatDoorUMathDecAll
/- Pairs cloned and put in order by the library, as value.Map asks it to. -/
/- slices.Clone and slices.SortFunc over pairs that hold trees. -/
namespace Go.Proofs.YtkhjahpkbjafaaaGreatDoor
open Go.RowKit Go.Shelf Go.Sort

/-- a pair's cells -/
abbrev PE := ByteArray × Int × Int × ByteArray × (Option Addr × Nat × Nat) × (Option Addr × Nat × Nat)
def encP (e : PE) : List Value := [.string e.1, .int .i64 e.2.1, .int .i64 e.2.2.1, .string e.2.2.2.1, .slice e.2.2.2.2.1.1 e.2.2.2.2.1.2.1 e.2.2.2.2.1.2.2, .slice e.2.2.2.2.2.1 e.2.2.2.2.2.2.1 e.2.2.2.2.2.2.2]
def slc : Value → Option Addr × Nat × Nat | .slice o n c => (o, n, c) | _ => (none, 0, 0)
def peOf (c : ByteArray) (t : VT) (x y : Value) : PE := (c, t.kd, t.nm, t.st, slc x, slc y)
theorem enc_pe (c : ByteArray) (t : VT) (o1 : Option Addr) (n1 c1 : Nat) (o2 : Option Addr) (n2 c2 : Nat) : encP (peOf c t (.slice o1 n1 c1) (.slice o2 n2 c2)) = [.string c, .int .i64 t.kd, .int .i64 t.nm, .string t.st, .slice o1 n1 c1, .slice o2 n2 c2] := rfl
theorem enc_len (e : PE) : (encP e).length = 6 := rfl
theorem enc_one (e : PE) : ∀ v ∈ encP e, v.oneCell' = true := by
  intro v hv
  simp only [encP, List.mem_cons, List.not_mem_nil, or_false] at hv
  rcases hv with rfl | rfl | rfl | rfl | rfl | rfl <;> rfl
/-- how the pairs are put in order -/
def cfP (x y : PE) : Int := Lib.compareBytes x.1.data.toList y.1.data.toList
theorem cmp_lt : ∀ a b : List UInt8, (decide (Lib.compareBytes a b < 0)) = ltB a b
  | [], [] => rfl
  | [], _ :: _ => rfl
  | _ :: _, [] => rfl
  | a :: l, b :: m => by
    rw [ltB_cons, Lib.compareBytes]
    by_cases h1 : a < b
    · rw [if_pos h1, decide_eq_true h1]; rfl
    · rw [if_neg h1, decide_eq_false h1]
      by_cases h2 : b < a
      · have h3 : (a == b) = false := by rw [beq_eq_false_iff_ne]; rintro rfl; exact h1 h2
        rw [if_pos h2, h3]; rfl
      · have h3 : a = b := UInt8.le_antisymm (by simpa using h2) (by simpa using h1)
        rw [if_neg h2, cmp_lt l m, h3]; simp
theorem ltP (x y : PE) : ltOf cfP x y = ltB x.1.data.toList y.1.data.toList := cmp_lt _ _
theorem ltB_nt (a b c : List UInt8) (h1 : ltB a b = false) (h2 : ltB b c = false) : ltB a c = false := by
  cases h : ltB a c with
  | false => rfl
  | true =>
    rcases ltB_tri b c with ⟨h3, _, _⟩ | h3 | ⟨_, h3, _⟩
    · rw [h2] at h3; cases h3
    · rw [h3] at h1; rw [h1] at h; cases h
    · have := ltB_trans a c b h h3; rw [h1] at this; cases this
theorem swoP : SWO (ltOf cfP) where
  irrefl x := by rw [ltP]; exact ltB_irr _
  trans x y z h1 h2 := by rw [ltP] at *; exact ltB_trans _ _ _ h1 h2
  ntrans x y z h1 h2 := by rw [ltP] at *; exact ltB_nt _ _ _ h1 h2
set_option maxRecDepth 100000 in
set_option maxHeartbeats 400000 in
/-- the order that Map hands to the library -/
theorem lit_map (x y : PE) (W : World) : Calls Tryz.prog 118 #[.agg (encP x).toArray, .agg (encP y).toArray] W fun e w' => e = .returned (.int .i64 (cfP x y)) ∧ ∃ q os', w' = grow (W.drewN q) os' := by
  have hcon := hid (fun W' => Tryz.strings_Compare x.1 y.1 W')
  have HR := hid (show cfP x y = Lib.compareBytes x.1.data.toList y.1.data.toList from rfl)
  generalize Lib.compareBytes x.1.data.toList y.1.data.toList = r at hcon HR
  obtain ⟨c, k, n, s, ⟨o1, n1, c1⟩, ⟨o2, n2, c2⟩⟩ := x
  obtain ⟨c', k', n', s', ⟨o1', n1', c1'⟩, ⟨o2', n2', c2'⟩⟩ := y
  simp only [encP] at hcon HR ⊢
  go_enter Tryz.func118, Tryz.ntmps118
  go_wp2_with (go_at_call 119; go_must (refine (hcon.out _).mono ?_; rintro e w' ⟨rfl, rfl⟩))
  go_ret
  exact ⟨ret_int HR.out.symm, 0, _, by rw [alloc_eq_grow, alloc_eq_grow, grow_grow]; rfl⟩
theorem chg_sort (w : World) (b o n : Nat) (d : Array PE) (os : Array Obj) : Chg b (b + 1) w (sortWorldK encP 6 w b o n d os) := by
  refine ⟨rfl, rfl, rfl, size_sortWorldK_c encP 6 w b o n d os, fun k hk hn => ?_⟩
  show ((w.heap.modify b _) ++ os)[k]? = _
  rw [Array.getElem?_append_left (by simpa using hk), Array.getElem?_modify, if_neg (by omega)]
/-- a permutation of images is the image of a permutation -/
theorem perm_lift {α β : Type} (f : α → β) : ∀ {l' l : List β}, l'.Perm l → ∀ A : List α, A.map f = l → ∃ A' : List α, A'.Perm A ∧ A'.map f = l' := by
  intro l' l h
  induction h with
  | nil => intro A hA; exact ⟨A, List.Perm.refl _, hA⟩
  | cons x _ ih =>
    intro A hA
    cases A with
    | nil => simp at hA
    | cons a r =>
      simp at hA
      obtain ⟨A', h1, h2⟩ := ih r hA.2
      exact ⟨a :: A', h1.cons a, by simp [h2, hA.1]⟩
  | swap x y l =>
    intro A hA
    match A, hA with
    | a :: b :: r, hA =>
      simp at hA
      exact ⟨b :: a :: r, List.Perm.swap a b r, by simp [hA.1, hA.2.1, hA.2.2]⟩
  | trans _ _ ih1 ih2 =>
    intro A hA
    obtain ⟨B, h1, h2⟩ := ih2 A hA
    obtain ⟨C, h3, h4⟩ := ih1 B h2
    exact ⟨C, h3.trans h1, h4⟩
end Go.Proofs.YtkhjahpkbjafaaaGreatDoor
namespace Go.Proofs.YtkhjahpkbjafaaaGreatDoor
open Go.RowKit Go.Shelf Go.Sort

/-- the cells of a pair hold a key and a tree -/
def RelP (w : World) (x : PE × (ByteArray × VT)) : Prop := x.1.1 = x.2.1 ∧ x.2.1.size ≤ maxLen ∧ x.1.2.1 = x.2.2.kd ∧ x.1.2.2.1 = x.2.2.nm ∧ x.1.2.2.2.1 = x.2.2.st ∧ HV w x.2.2 (.slice x.1.2.2.2.2.1.1 x.1.2.2.2.2.1.2.1 x.1.2.2.2.2.1.2.2) (.slice x.1.2.2.2.2.2.1 x.1.2.2.2.2.2.2.1 x.1.2.2.2.2.2.2.2)
/-- pairs lie in a block of their own, their trees where they lay -/
def Held (w0 w : World) (g : Nat) (A : List (ByteArray × VT)) : Prop := ∃ (d : Array PE) (D : List (PE × (ByteArray × VT))), HoldsK encP 6 w g 0 d ∧ D.map (·.1) = d.toList ∧ D.map (·.2) = A ∧ ∀ x ∈ D, RelP w0 x
theorem held_in {w0 w : World} {g cap : Nat} {A : List (ByteArray × VT)} (h : Held w0 w g A) (hb : Below w0.heap.size w0 w) (h1 : A.length ≤ cap) (h2 : cap ≤ maxLen) : InM w (A.map (·.1)) (A.map (·.2)) (.slice (some ⟨g, 0, none⟩) A.length cap) := by
  obtain ⟨d, D, hH, hd, hA, hR⟩ := h
  have hsz : d.size = A.length := by rw [← hA, List.length_map, ← Array.length_toList, ← hd, List.length_map]
  have hDl : D.length = A.length := by rw [← hA, List.length_map]
  have hat : ∀ (i : Nat) (x : PE × (ByteArray × VT)), D[i]? = some x → d[i]! = x.1 := by
    intro i x hx
    have : d.toList[i]? = some x.1 := by rw [← hd, List.getElem?_map, hx]; rfl
    rw [Array.getElem?_toList] at this
    rw [getElem!_def, this]
  have hof : ∀ i, i < A.length → ∃ x, D[i]? = some x ∧ A[i]? = some x.2 ∧ RelP w0 x := by
    intro i hi
    exact ⟨D[i]'(by omega), List.getElem?_eq_getElem (by omega), (congrArg (fun l : List (ByteArray × VT) => l[i]?) hA).symm.trans (by show (D.map _)[i]? = _; rw [List.getElem?_map, List.getElem?_eq_getElem (by omega)]; rfl), hR _ (List.getElem_mem _)⟩
  have key : ∀ (i : Nat) (x : PE × (ByteArray × VT)), D[i]? = some x → ∀ c, c < 6 → w.cell? ⟨g, i * 6 + c, none⟩ = some (encP x.1)[c]! := by
    intro i x hx c hc
    have hi := lt_of_some hx
    have := (hH.cell (i := i) (c := c) (by omega) hc).1
    rw [Nat.zero_add, hat i x hx] at this
    exact this
  let P := fun i : Nat => (D[i]?).map fun x : PE × (ByteArray × VT) => Value.slice x.1.2.2.2.2.1.1 x.1.2.2.2.2.1.2.1 x.1.2.2.2.2.1.2.2
  let Q := fun i : Nat => (D[i]?).map fun x : PE × (ByteArray × VT) => Value.slice x.1.2.2.2.2.2.1 x.1.2.2.2.2.2.2.1 x.1.2.2.2.2.2.2.2
  refine ⟨⟨g, 0, none⟩, fun i => (P i).getD .nilIface, fun i => (Q i).getD .nilIface, ⟨_, _, by simp, by simpa using h1, h2, fun _ => rfl⟩, by simp, fun i u hu => ?_, fun i t ht => ?_, fun i t ht => ?_⟩
  · rw [List.getElem?_map] at hu
    obtain ⟨a, ha, rfl⟩ := Option.map_eq_some_iff.1 hu
    obtain ⟨x, hx, hxA, hr⟩ := hof i (lt_of_some ha)
    rw [ha] at hxA; cases hxA
    rw [add_at]
    have := key i x hx 0 (by omega)
    rw [Nat.add_zero] at this
    exact ⟨this.trans (by rw [← hr.1]; rfl), hr.2.1⟩
  · rw [List.getElem?_map] at ht
    obtain ⟨a, ha, rfl⟩ := Option.map_eq_some_iff.1 ht
    obtain ⟨x, hx, hxA, hr⟩ := hof i (lt_of_some ha)
    rw [ha] at hxA; cases hxA
    have e1 : (P i).getD .nilIface = Value.slice x.1.2.2.2.2.1.1 x.1.2.2.2.2.1.2.1 x.1.2.2.2.2.1.2.2 := by show Option.getD ((D[i]?).map _) _ = _; rw [hx]; rfl
    have e2 : (Q i).getD .nilIface = Value.slice x.1.2.2.2.2.2.1 x.1.2.2.2.2.2.2.1 x.1.2.2.2.2.2.2.2 := by show Option.getD ((D[i]?).map _) _ = _; rw [hx]; rfl
    show Node w (nx (Addr.add ⟨g, 0, none⟩ (i * 6))) x.2.2 ((P i).getD .nilIface) ((Q i).getD .nilIface)
    rw [e1, e2, add_at]
    exact ⟨(key i x hx 1 (by omega)).trans (by rw [← hr.2.2.1]; rfl), (key i x hx 2 (by omega)).trans (by rw [← hr.2.2.2.1]; rfl), (key i x hx 3 (by omega)).trans (by rw [← hr.2.2.2.2.1]; rfl), (key i x hx 4 (by omega)).trans rfl, (key i x hx 5 (by omega)).trans rfl⟩
  · rw [List.getElem?_map] at ht
    obtain ⟨a, ha, rfl⟩ := Option.map_eq_some_iff.1 ht
    obtain ⟨x, hx, hxA, hr⟩ := hof i (lt_of_some ha)
    rw [ha] at hxA; cases hxA
    have e1 : (P i).getD .nilIface = Value.slice x.1.2.2.2.2.1.1 x.1.2.2.2.2.1.2.1 x.1.2.2.2.2.1.2.2 := by show Option.getD ((D[i]?).map _) _ = _; rw [hx]; rfl
    have e2 : (Q i).getD .nilIface = Value.slice x.1.2.2.2.2.2.1 x.1.2.2.2.2.2.2.1 x.1.2.2.2.2.2.2.2 := by show Option.getD ((D[i]?).map _) _ = _; rw [hx]; rfl
    show HV w x.2.2 ((P i).getD .nilIface) ((Q i).getD .nilIface)
    rw [e1, e2]
    exact hr.2.2.2.2.2.onto hb
set_option maxRecDepth 100000 in
theorem sortf_any (A : List (ByteArray × VT)) (w0 w : World) (g cap : Nat) (h : Held w0 w g A) (hg : g < w.heap.size) (hl : A.length ≤ 1000000) :
    Calls Tryz.prog 117 #[.slice (some ⟨g, 0, none⟩) A.length cap, .func (.func 118) #[] #[]] w fun e w' => e = .returned (.tuple #[]) ∧ ∃ A', A'.Perm A ∧ Rising A' ∧ Held w0 w' g A' ∧ Chg g (g + 1) w w' := by
  obtain ⟨d, D, hH, hd, hA, hR⟩ := h
  have hsz : d.size = A.length := by rw [← hA, List.length_map, ← Array.length_toList, ← hd, List.length_map]
  have eg : ∀ args w, (callFunc 118 args).run Tryz.prog w = .ok (.enter 118 args) w := enters_of Tryz.func118 (by kernel_rfl) rfl
  have hcon := AnyQ.slices_SortFunc Tryz.laysSort 6 Tryz.isAgg52 Tryz.sizeOf52 encP enc_len enc_one cfP swoP 118 #[] g 0 cap d w eg (fun _ _ _ _ x y => lit_map x y _) hH hg (by omega)
  rw [hsz] at hcon
  refine Calls.mono hcon ?_
  rintro e w' ⟨he, d', n, os, hp, hs, rfl⟩
  have hp1 : d'.size = d.size := hp.1
  have hperm : d'.toList.Perm d.toList := by
    have := hp.2.2
    rw [← hsz] at this
    rw [show d'.extract 0 d.size = d' by rw [← hp1]; simp, show d.extract 0 d.size = d by simp] at this
    exact this
  obtain ⟨D', h1, h2⟩ := perm_lift (fun x : PE × (ByteArray × VT) => x.1) hperm D hd
  refine ⟨he, D'.map (·.2), hA ▸ h1.map _, ?_, ⟨d', D', holdsK_sortWorldK_c encP 6 w g 0 d d' n os hH hg hp1, h2, rfl, fun x hx => hR x (h1.subset hx)⟩, chg_sort w g 0 n d' os⟩
  intro i j a b hij ha hb
  rw [List.getElem?_map] at ha hb
  obtain ⟨x, hx, rfl⟩ := Option.map_eq_some_iff.1 ha
  obtain ⟨y, hy, rfl⟩ := Option.map_eq_some_iff.1 hb
  have hat : ∀ (i : Nat) (x : PE × (ByteArray × VT)), D'[i]? = some x → d'[i]! = x.1 := by
    intro i x hx
    have : d'.toList[i]? = some x.1 := by rw [← h2, List.getElem?_map, hx]; rfl
    rw [Array.getElem?_toList] at this
    rw [getElem!_def, this]
  have hlt : j < A.length := by
    have := lt_of_some hy
    have e : D'.length = d'.size := by rw [← Array.length_toList, ← h2, List.length_map]
    omega
  have := hs i j (Nat.zero_le _) hij hlt
  rw [hat i x hx, hat j y hy, ltP] at this
  rw [← (hR x (h1.subset (List.mem_of_getElem? hx))).1, ← (hR y (h1.subset (List.mem_of_getElem? hy))).1]
  exact this
set_option maxRecDepth 100000 in
theorem cloneP_any (A : List (ByteArray × VT)) (w : World) (b off cap : Nat) (hA : InM w (A.map (·.1)) (A.map (·.2)) (.slice (some ⟨b, off, none⟩) A.length cap)) (h0 : 0 < A.length) (hl : A.length ≤ 1000000) :
    Calls Tryz.prog 116 #[.slice (some ⟨b, off, none⟩) A.length cap] w fun e w' => ∃ g cap', e = .returned (.slice (some ⟨g, 0, none⟩) A.length cap') ∧ A.length ≤ cap' ∧ cap' ≤ maxLen ∧ w.heap.size ≤ g ∧ g < w'.heap.size ∧ Held w w' g A ∧ Below w.heap.size w w' := by
  obtain ⟨ad, p, q, ⟨o, cp, hv, -, -, ho⟩, hK, cK, cM, rM⟩ := hA
  simp only [List.length_map] at hv ho hK
  injection hv with e1 e2 e3
  have e4 := ho h0
  rw [← e1] at e4
  cases e4
  let D : List (PE × (ByteArray × VT)) := (List.range A.length).map fun i => (peOf (A.getD i (⟨#[]⟩, zeroT)).1 (A.getD i (⟨#[]⟩, zeroT)).2 (p i) (q i), A.getD i (⟨#[]⟩, zeroT))
  have hDl : D.length = A.length := by simp [D]
  have hDat : ∀ (i : Nat) (a : ByteArray × VT), A[i]? = some a → D[i]? = some (peOf a.1 a.2 (p i) (q i), a) := by
    intro i a ha
    have hi := lt_of_some ha
    show ((List.range A.length).map _)[i]? = _
    rw [List.getElem?_map, List.getElem?_range hi]
    simp only [Option.map_some, List.getD, ha, Option.getD_some]
  have hDA : D.map (·.2) = A := by
    apply List.ext_getElem?
    intro i
    rw [List.getElem?_map]
    by_cases hi : i < A.length
    · rw [List.getElem?_eq_getElem hi, hDat i _ (List.getElem?_eq_getElem hi)]; rfl
    · rw [List.getElem?_eq_none (by omega), List.getElem?_eq_none (by omega)]; rfl
  have cell : ∀ (i : Nat) (a : ByteArray × VT), A[i]? = some a → ∀ c, c < 6 → w.cell? ⟨b, off + (i * 6 + c), none⟩ = some (encP (peOf a.1 a.2 (p i) (q i)))[c]! := by
    intro i a ha c hc
    have k0 := (cK i a.1 (by rw [List.getElem?_map, ha]; rfl)).1
    have nd := cM i a.2 (by rw [List.getElem?_map, ha]; rfl)
    obtain ⟨o1, n1, c1, o2, n2, c2, hp, hq⟩ := hv_slices (rM i a.2 (by rw [List.getElem?_map, ha]; rfl))
    rw [add_off] at k0 nd
    rw [hp, hq] at nd ⊢
    rw [enc_pe]
    obtain ⟨d0, d1, d2, d3, d4⟩ := nd
    simp only [nx] at d0 d1 d2 d3 d4
    match c, hc with
    | 0, _ => exact k0
    | 1, _ => exact d0
    | 2, _ => exact d1
    | 3, _ => exact d2
    | 4, _ => exact d3
    | 5, _ => exact d4
  have hd : ∀ (i : Nat) (a : ByteArray × VT), A[i]? = some a → (D.map (·.1)).toArray[i]! = peOf a.1 a.2 (p i) (q i) := by
    intro i a ha
    have : (D.map (·.1)).toArray[i]? = some (peOf a.1 a.2 (p i) (q i)) := by
      rw [List.getElem?_toArray, List.getElem?_map, hDat i a ha]; rfl
    rw [getElem!_def, this]
  obtain ⟨i0, hi0, hz⟩ := Option.map_eq_some_iff.1 Tryz.info34
  simp only [Prod.mk.injEq] at hz
  obtain ⟨hz0, hz1, hz2⟩ := hz
  have hds : (D.map (·.1)).toArray.size = A.length := by simp [hDl]
  have hfs : (flatK encP 6 (D.map (·.1)).toArray).size = A.length * 6 := by rw [size_flatK, hds]
  have hflat : ∀ j, j < A.length * 6 → ∃ a, A[j / 6]? = some a ∧ (flatK encP 6 (D.map (·.1)).toArray)[j]! = (encP (peOf a.1 a.2 (p (j / 6)) (q (j / 6))))[j % 6]! := by
    intro j hj
    have hi : j / 6 < A.length := by omega
    refine ⟨A[j / 6], List.getElem?_eq_getElem hi, ?_⟩
    rw [get_flatK _ _ _ _ (by rw [hds]; exact hj), hd _ _ (List.getElem?_eq_getElem hi)]
  have hnews : ∀ (j : Nat) (u : Value), (flatK encP 6 (D.map (·.1)).toArray).toList[j]? = some u → j < A.length * 6 ∧ u = (flatK encP 6 (D.map (·.1)).toArray)[j]! := by
    intro j u hu
    rw [Array.getElem?_toList] at hu
    have hj := (Array.getElem?_eq_some_iff.1 hu).1
    rw [hfs] at hj
    refine ⟨hj, ?_⟩
    rw [getElem!_def, hu]
  have hcon := AnyE.slices_Clone Tryz.laysClone i0 _ 6 96 hi0 hz0 hz1 hz2 rfl (by decide) Tryz.sizeOf52 b off A.length cap (flatK encP 6 (D.map (·.1)).toArray).toList w (by rw [Array.length_toList, hfs]) (by unfold maxLen; omega) (by omega)
    (fun j u hu => by
      obtain ⟨hj, rfl⟩ := hnews j u hu
      obtain ⟨a, ha, hf⟩ := hflat j hj
      rw [hf]
      have := cell (j / 6) a ha (j % 6) (Nat.mod_lt _ (by decide))
      rw [show j / 6 * 6 + j % 6 = j by omega] at this
      exact this)
    (fun u hu => by
      obtain ⟨j, hj⟩ := List.getElem?_of_mem hu
      obtain ⟨hj', rfl⟩ := hnews j u hj
      obtain ⟨a, ha, hf⟩ := hflat j hj'
      rw [hf]
      refine enc_one (peOf a.1 a.2 (p (j / 6)) (q (j / 6))) _ ?_
      rw [getElem!_pos _ _ (by rw [enc_len]; exact Nat.mod_lt _ (by decide))]
      exact List.getElem_mem _)
  refine Calls.mono hcon ?_
  rintro e w' ⟨v', rfl, ⟨hol, ⟨hv', hn0⟩ | ⟨g, cap', cur, rfl, hg, hcur, hc1, hc2, hc3, hc4⟩⟩, -, hb⟩
  · omega
  · have hglt : g < w'.heap.size := (Array.getElem?_eq_some_iff.1 hcur).1
    refine ⟨g, cap', rfl, hc1, hc2, hg, hglt, ⟨(D.map (·.1)).toArray, D, ?_, by simp, hDA, ?_⟩, hb⟩
    · intro j hj
      rw [hfs] at hj
      have hcj : cur[j]? = some (flatK encP 6 (D.map (·.1)).toArray)[j]! := by
        have h1 : (cur.toList.take (A.length * 6))[j]? = some (flatK encP 6 (D.map (·.1)).toArray)[j]! := by
          rw [hc4, Array.getElem?_toList, Array.getElem?_eq_getElem (by rw [hfs]; exact hj), getElem!_pos]
        rw [List.getElem?_take, if_pos hj, Array.getElem?_toList] at h1
        exact h1
      rw [Nat.zero_add]
      refine ⟨?_, by simp [World.frozen?, hcur]⟩
      simp only [World.cell?, hcur]
      simpa using hcj
    · intro x hx
      obtain ⟨i, hi⟩ := List.getElem?_of_mem hx
      have hil : i < A.length := by have := lt_of_some hi; omega
      rw [hDat i _ (List.getElem?_eq_getElem hil)] at hi
      cases hi
      have hu := (cK i (A[i]).1 (by rw [List.getElem?_map, List.getElem?_eq_getElem hil]; rfl)).2
      have hv := rM i (A[i]).2 (by rw [List.getElem?_map, List.getElem?_eq_getElem hil]; rfl)
      obtain ⟨o1, n1, c1, o2, n2, c2, hp, hq⟩ := hv_slices hv
      rw [hp, hq] at hv ⊢
      exact ⟨rfl, hu, rfl, rfl, rfl, hv⟩
end Go.Proofs.YtkhjahpkbjafaaaGreatDoor
