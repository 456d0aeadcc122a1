import Derived.Test.YtjbccmnmcjmooaaDoorCpJ
/- CprintKnown. -/
namespace Go.Proofs.YtjbccmnmcjmooaaDoor
open Go.RowKit

/-- two rows -/
theorem inR_two (w : World) (ks ls : List ByteArray) (hl : ks.length ≤ 1000) (hs : ∀ s ∈ ks, s.size ≤ 100000) (hl2 : ls.length ≤ 1000) (hs2 : ∀ s ∈ ls, s.size ≤ 100000) : InR (((w.alloc (.cells (ks.map Value.string).toArray 9)).alloc (.cells (ls.map Value.string).toArray 9)).alloc (.cells #[.slice (some ⟨w.heap.size, 0, none⟩) ks.length ks.length, .slice (some ⟨w.heap.size + 1, 0, none⟩) ls.length ls.length] 24)) [ks, ls] (.slice (some ⟨w.heap.size + 2, 0, none⟩) 2 2) := by
  have hz : (w.alloc (.cells (ks.map Value.string).toArray 9)).heap.size = w.heap.size + 1 := by simp
  have hz2 : ((w.alloc (.cells (ks.map Value.string).toArray 9)).alloc (.cells (ls.map Value.string).toArray 9)).heap.size = w.heap.size + 2 := by simp
  have i1 := (inS_new w ks hl hs).onto (valloc_bel (Below.refl _ _) (.cells (ls.map Value.string).toArray 9))
  have i2 := inS_new (w.alloc (.cells (ks.map Value.string).toArray 9)) ls hl2 hs2
  rw [hz] at i2
  have := inR_new ((w.alloc (.cells (ks.map Value.string).toArray 9)).alloc (.cells (ls.map Value.string).toArray 9)) [.slice (some ⟨w.heap.size, 0, none⟩) ks.length ks.length, .slice (some ⟨w.heap.size + 1, 0, none⟩) ls.length ls.length] [ks, ls] (by simp) rfl (fun i k u h1 h2 => by
    match i with
    | 0 =>
      simp only [List.getElem?_cons_zero, Option.some.injEq] at h1 h2
      subst h1 h2
      exact i1
    | 1 =>
      simp only [List.getElem?_cons_zero, List.getElem?_cons_succ, Option.some.injEq] at h1 h2
      subst h1 h2
      exact i2
    | i + 2 => simp at h1)
  rw [hz2] at this
  exact this
theorem bnd_two (ks ls : List ByteArray) (hl : ks.length ≤ 1000) (hs : ∀ s ∈ ks, s.size ≤ 100000) (hl2 : ls.length ≤ 1000) (hs2 : ∀ s ∈ ls, s.size ≤ 100000) : RBnd [ks, ls] := ⟨by simp, fun k hk => by
  simp at hk
  rcases hk with rfl | rfl
  · exact ⟨hl, hs⟩
  · exact ⟨hl2, hs2⟩⟩
theorem inR_nil (w : World) : InR w [] (.slice none 0 0) := ⟨⟨0, 0, none⟩, ⟨none, 0, rfl, Nat.le_refl _, Nat.zero_le _, fun h => absurd h (by simp)⟩, fun i s h => by simp at h⟩
theorem bnd_nil : RBnd [] := ⟨by simp, fun k hk => by simp at hk⟩
set_option maxRecDepth 100000 in
set_option maxHeartbeats 4000000 in
theorem Tryd.cprintKnown_walk (w : World) (hg : GlobC w) : Calls Tryd.prog 3 #[] w fun e w' => e = .returned (.bool true) ∧ Below w.heap.size w w' := by
  have CA := hid (awake14 w hg)
  have M1 := hid (fun X (hX : Below w.heap.size w X) (v : Value) (h : InR X [[]] v) => pmay_any [[]] v X (hg.on hX) h (bnd_one _ (by decide) (by decide)))
  rw [show mayB (rb [[]]) = false by kernel_rfl] at M1
  have M2 := hid (fun X (hX : Below w.heap.size w X) (v : Value) (h : InR X [[⟨#[97]⟩], [⟨#[97]⟩, ⟨#[98]⟩]] v) => pmay_any [[⟨#[97]⟩], [⟨#[97]⟩, ⟨#[98]⟩]] v X (hg.on hX) h (bnd_two _ _ (by decide) (by decide) (by decide) (by decide)))
  rw [show mayB (rb [[⟨#[97]⟩], [⟨#[97]⟩, ⟨#[98]⟩]]) = false by kernel_rfl] at M2
  have M3 := hid (fun X (hX : Below w.heap.size w X) (v : Value) (h : InR X [[⟨#[255]⟩]] v) => pmay_any [[⟨#[255]⟩]] v X (hg.on hX) h (bnd_one _ (by decide) (by decide)))
  rw [show mayB (rb [[⟨#[255]⟩]]) = false by kernel_rfl] at M3
  have M4 := hid (fun X (hX : Below w.heap.size w X) => pmay_any [] _ X (hg.on hX) (inR_nil X) bnd_nil)
  rw [show mayB (rb []) = true by kernel_rfl] at M4
  have P1 := hid (fun X (hX : Below w.heap.size w X) => pprint_any [] _ X (hg.on hX) (inR_nil X) bnd_nil)
  rw [show mkS (prnB (rb [])) = ⟨#[]⟩ by kernel_rfl] at P1
  have F1 := hid (fun X (hX : Below w.heap.size w X) => pfield_any ⟨#[]⟩ false X (hg.on hX) (by decide))
  rw [show mkS (fldB (⟨#[]⟩ : ByteArray).data.toList false) = ⟨#[]⟩ by kernel_rfl] at F1
  have F2 := hid (fun X (hX : Below w.heap.size w X) => pfield_any ⟨#[97, 34, 98]⟩ false X (hg.on hX) (by decide))
  rw [show mkS (fldB (⟨#[97, 34, 98]⟩ : ByteArray).data.toList false) = ⟨#[34, 97, 34, 34, 98, 34]⟩ by kernel_rfl] at F2
  clear hg
  go_enter Tryd.func3, Tryd.ntmps3
  go_wp2_with fail
  go_at_call 7
  refine CA.out.mono ?_
  rintro e w0 ⟨rfl, hb0⟩
  have HB0 := hid hb0
  have H1 := hid (inR_one w0 [] (by decide) (by decide))
  have HB1 := hid (vonto HB0.out (valloc_bel (valloc_bel (Below.refl w0.heap.size w0) (.cells #[] 9)) (.cells #[.slice (some ⟨w0.heap.size, 0, none⟩) 0 0] 24)))
  clear hb0 CA
  go_wp2_with fail
  go_at_call 8
  refine (M1.out _ HB1.out _ H1.out).mono ?_
  rintro e w1 ⟨rfl, hb1⟩
  have HB2 := hid (vonto HB1.out hb1)
  have H2 := hid (inR_two w1 [⟨#[97]⟩] [⟨#[97]⟩, ⟨#[98]⟩] (by decide) (by decide) (by decide) (by decide))
  have HB3 := hid (vonto HB2.out (valloc_bel (valloc_bel (valloc_bel (Below.refl w1.heap.size w1) (.cells #[.string ⟨#[97]⟩] 9)) (.cells #[.string ⟨#[97]⟩, .string ⟨#[98]⟩] 9)) (.cells #[.slice (some ⟨w1.heap.size, 0, none⟩) 1 1, .slice (some ⟨w1.heap.size + 1, 0, none⟩) 2 2] 24)))
  clear hb1 M1 H1
  go_wp2_with fail
  go_at_call 8
  refine (M2.out _ HB3.out _ H2.out).mono ?_
  rintro e w2 ⟨rfl, hb2⟩
  have HB4 := hid (vonto HB3.out hb2)
  have H3 := hid (inR_one w2 [⟨#[255]⟩] (by decide) (by decide))
  have HB5 := hid (vonto HB4.out (valloc_bel (valloc_bel (Below.refl w2.heap.size w2) (.cells #[.string ⟨#[255]⟩] 9)) (.cells #[.slice (some ⟨w2.heap.size, 0, none⟩) 1 1] 24)))
  clear hb2 M2 H2
  go_wp2_with fail
  go_at_call 8
  refine (M3.out _ HB5.out _ H3.out).mono ?_
  rintro e w3 ⟨rfl, hb3⟩
  have HB6 := hid (vonto HB5.out hb3)
  clear hb3 M3 H3
  go_wp2_with fail
  go_at_call 8
  refine (M4.out _ HB6.out).mono ?_
  rintro e w4 ⟨rfl, hb4⟩
  have HB7 := hid (vonto HB6.out hb4)
  clear hb4 M4
  go_wp2_with fail
  go_at_call 9
  refine (P1.out _ HB7.out).mono ?_
  rintro e w5 ⟨rfl, hb5⟩
  have HB8 := hid (vonto HB7.out hb5)
  clear hb5 P1
  go_wp2_with fail
  go_at_call 10
  refine (F1.out _ HB8.out).mono ?_
  rintro e w6 ⟨rfl, hb6⟩
  have HB9 := hid (vonto HB8.out hb6)
  clear hb6 F1
  go_wp2_with fail
  go_at_call 10
  refine (F2.out _ HB9.out).mono ?_
  rintro e w7 ⟨rfl, hb7⟩
  have HB10 := hid (vonto HB9.out hb7)
  clear hb7 F2
  go_wp2_with fail
  go_ret
  exact ⟨rfl, HB10.out⟩
end Go.Proofs.YtjbccmnmcjmooaaDoor
