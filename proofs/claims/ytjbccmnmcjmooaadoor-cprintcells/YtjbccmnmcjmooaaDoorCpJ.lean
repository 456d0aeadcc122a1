import Derived.Test.YtjbccmnmcjmooaaDoorCpI
/- The statements of stage 14: what they ask first. -/
namespace Go.Proofs.YtjbccmnmcjmooaaDoor
open Go.RowKit

theorem inS_new (w : World) (ks : List ByteArray) (hl : ks.length ≤ 1000) (hs : ∀ s ∈ ks, s.size ≤ 100000) : InS (w.alloc (.cells (ks.map Value.string).toArray 9)) ks (.slice (some ⟨w.heap.size, 0, none⟩) ks.length ks.length) := by
  refine ⟨⟨w.heap.size, 0, none⟩, ⟨_, _, rfl, Nat.le_refl _, by unfold maxLen; omega, fun _ => rfl⟩, fun i c hc => ⟨?_, by have := hs c (List.mem_of_getElem? hc); unfold maxLen; omega⟩⟩
  rw [add_at]
  have := new_cells w (ks.map Value.string) 9 i (.string c) (by rw [List.getElem?_map, hc]; rfl)
  rw [add_at] at this
  exact this
theorem inR_new (w : World) (us : List Value) (rows : List (List ByteArray)) (hl : rows.length ≤ 1000) (hu : us.length = rows.length) (h : ∀ (i : Nat) ks u, rows[i]? = some ks → us[i]? = some u → InS w ks u) : InR (w.alloc (.cells us.toArray 24)) rows (.slice (some ⟨w.heap.size, 0, none⟩) us.length us.length) := by
  refine ⟨⟨w.heap.size, 0, none⟩, ⟨some ⟨w.heap.size, 0, none⟩, us.length, by rw [hu], by omega, by unfold maxLen; omega, fun _ => rfl⟩, fun i ks hk => ?_⟩
  have hlt := lt_of_some hk
  obtain ⟨u, hu2⟩ : ∃ u, us[i]? = some u := ⟨_, List.getElem?_eq_getElem (by rw [hu]; exact hlt)⟩
  refine ⟨u, ?_, (h i ks u hk hu2).onto (valloc_bel (Below.refl _ _) _)⟩
  rw [add_at]
  have := new_cells w us 24 i u hu2
  rw [add_at] at this
  exact this
/-- one row -/
theorem inR_one (w : World) (ks : List ByteArray) (hl : ks.length ≤ 1000) (hs : ∀ s ∈ ks, s.size ≤ 100000) : InR ((w.alloc (.cells (ks.map Value.string).toArray 9)).alloc (.cells #[.slice (some ⟨w.heap.size, 0, none⟩) ks.length ks.length] 24)) [ks] (.slice (some ⟨w.heap.size + 1, 0, none⟩) 1 1) := by
  have := inR_new (w.alloc (.cells (ks.map Value.string).toArray 9)) [.slice (some ⟨w.heap.size, 0, none⟩) ks.length ks.length] [ks] (by simp) rfl (fun i k u h1 h2 => by
    cases i with
    | zero =>
      simp only [List.getElem?_cons_zero, Option.some.injEq] at h1 h2
      subst h1 h2
      exact inS_new w ks hl hs
    | succ i => simp at h1)
  have hz : (w.alloc (.cells (ks.map Value.string).toArray 9)).heap.size = w.heap.size + 1 := by simp
  rw [hz] at this
  exact this
theorem bnd_one (ks : List ByteArray) (hl : ks.length ≤ 1000) (hs : ∀ s ∈ ks, s.size ≤ 100000) : RBnd [ks] := ⟨by simp, fun k hk => by simp at hk; subst hk; exact ⟨hl, hs⟩⟩
set_option maxRecDepth 100000 in
set_option maxHeartbeats 2000000 in
theorem awake14 (w : World) (hg : GlobC w) : Calls Tryd.prog 7 #[] w fun e w' => e = .returned (.bool true) ∧ Below w.heap.size w w' := by
  have CP := hid (fun X (hX : Below w.heap.size w X) (v : Value) (h : InR X [[⟨#[97]⟩, ⟨#[98, 44, 99]⟩]] v) => pprint_any [[⟨#[97]⟩, ⟨#[98, 44, 99]⟩]] v X (hg.on hX) h (bnd_one _ (by decide) (by decide)))
  rw [show mkS (prnB (rb [[⟨#[97]⟩, ⟨#[98, 44, 99]⟩]])) = ⟨#[97, 44, 34, 98, 44, 99, 34, 13, 10]⟩ by kernel_rfl] at CP
  have CM := hid (fun X (hX : Below w.heap.size w X) (v : Value) (h : InR X [[⟨#[97]⟩]] v) => pmay_any [[⟨#[97]⟩]] v X (hg.on hX) h (bnd_one _ (by decide) (by decide)))
  rw [show mayB (rb [[⟨#[97]⟩]]) = true by kernel_rfl] at CM
  have CF := hid (fun X (hX : Below w.heap.size w X) => pfield_any ⟨#[]⟩ true X (hg.on hX) (by decide))
  rw [show mkS (fldB (⟨#[]⟩ : ByteArray).data.toList true) = ⟨#[34, 34]⟩ by kernel_rfl] at CF
  have H1 := hid (inR_one w [⟨#[97]⟩, ⟨#[98, 44, 99]⟩] (by decide) (by decide))
  have HB1 := hid (valloc_bel (valloc_bel (Below.refl w.heap.size w) (.cells #[.string ⟨#[97]⟩, .string ⟨#[98, 44, 99]⟩] 9)) (.cells #[.slice (some ⟨w.heap.size, 0, none⟩) 2 2] 24))
  clear hg
  go_enter Tryd.func7, Tryd.ntmps7
  go_wp2_with fail
  go_at_call 9
  refine (CP.out _ HB1.out _ H1.out).mono ?_
  rintro e w1 ⟨rfl, hb1⟩
  have HB2 := hid (vonto HB1.out hb1)
  have H2 := hid (inR_one w1 [⟨#[97]⟩] (by decide) (by decide))
  have HB3 := hid (vonto HB2.out (valloc_bel (valloc_bel (Below.refl w1.heap.size w1) (.cells #[.string ⟨#[97]⟩] 9)) (.cells #[.slice (some ⟨w1.heap.size, 0, none⟩) 1 1] 24)))
  clear hb1 CP
  go_wp2_with fail
  go_at_call 8
  refine (CM.out _ HB3.out _ H2.out).mono ?_
  rintro e w2 ⟨rfl, hb2⟩
  have HB4 := hid (vonto HB3.out hb2)
  clear hb2 CM
  go_wp2_with fail
  go_at_call 10
  refine (CF.out _ HB4.out).mono ?_
  rintro e w3 ⟨rfl, hb3⟩
  have HB5 := hid (vonto HB4.out hb3)
  clear hb3 CF
  go_wp2_with fail
  go_ret
  exact ⟨rfl, HB5.out⟩
end Go.Proofs.YtjbccmnmcjmooaaDoor
