/- CellKnown. -/
import Derived.Test.YtmncibjkgbmfjaaDoorCeW
namespace Go.Proofs.YtmncibjkgbmfjaaDoor
open Go.RowKit

theorem hv_one (w : World) : HV (w.alloc (.cells #[.int .i64 0, .int .i64 0, .string ⟨#[]⟩, .slice none 0 0, .slice none 0 0] 29)) (.mk 5 0 ⟨#[]⟩ [zeroT] [] []) (.slice (some ⟨w.heap.size, 0, none⟩) 1 1) (.slice none 0 0) := by
  obtain ⟨g0, g1, g2, g3, g4, -⟩ := cebox_of (w := w) (W := w.alloc (.cells #[.int .i64 0, .int .i64 0, .string ⟨#[]⟩, .slice none 0 0, .slice none 0 0] 29)) rfl
  refine .mk ⟨w.heap.size, 0, none⟩ ⟨0, 0, none⟩ (fun _ => .slice none 0 0) (fun _ => .slice none 0 0) (fun _ => .slice none 0 0) (fun _ => .slice none 0 0) (by decide) (by decide) (by decide) ⟨some ⟨w.heap.size, 0, none⟩, 1, rfl, Nat.le_refl _, by decide, fun _ => rfl⟩ ⟨none, 0, rfl, Nat.le_refl _, Nat.zero_le _, fun h => absurd h (by simp)⟩ rfl (fun i t h => ?_) (fun i t h => by simp at h) (fun i t h => by simp at h) (fun i t h => ?_) (fun i t h => by simp at h)
  · cases i with
    | zero =>
      simp only [List.getElem?_cons_zero, Option.some.injEq] at h
      subst h
      exact ⟨g0, g1, g2, g3, g4⟩
    | succ i => simp at h
  · cases i with
    | zero =>
      simp only [List.getElem?_cons_zero, Option.some.injEq] at h
      subst h
      exact hv_leaf _ 0 0 _ (by decide) (by decide) (by decide)
    | succ i => simp at h
set_option maxRecDepth 100000 in
set_option maxHeartbeats 4000000 in
theorem Tryd.cellKnown_walk (w : World) (hg : GlobC5 w) : Calls Tryd.prog 3 #[] w fun e w' => e = .returned (.bool true) ∧ Below w.heap.size w w' := by
  have CA := hid (awake15 w hg)
  have CT := hid (fun (T : VT) (x y : Value) X (hX : Below w.heap.size w X) (h : HV X T x y) => cetext_any T x y X (hg.on hX) h)
  have HL : Hid (∀ X (k n : Int) (s : ByteArray), (Lit.int .i64 k).wf = true → (Lit.int .i64 n).wf = true → s.size ≤ maxLen → HV X (leafT k n s) (.slice none 0 0) (.slice none 0 0)) := hid (fun X k n s h1 h2 h3 => hv_leaf X k n s h1 h2 h3)
  have C1 : Hid (∀ X, Below w.heap.size w X → Calls Tryd.prog 5 #[.agg #[.int .i64 4, .int .i64 0, .string ⟨#[]⟩, .slice none 0 0, .slice none 0 0]] X fun e w' => e = .returned (.tuple #[.string ⟨#[39]⟩, .bool true]) ∧ Below X.heap.size X w') := hid (fun X hX => by
    have := CT.out (leafT 4 0 ⟨#[]⟩) _ _ X hX (HL.out X 4 0 _ (by decide) (by decide) (by decide))
    rw [show celB (leafT 4 0 ⟨#[]⟩) = true by kernel_rfl, if_pos rfl, show mkS (celW (leafT 4 0 ⟨#[]⟩)) = ⟨#[39]⟩ by kernel_rfl] at this
    exact this)
  have C2 : Hid (∀ X, Below w.heap.size w X → Calls Tryd.prog 5 #[.agg #[.int .i64 4, .int .i64 0, .string ⟨#[110, 117, 108, 108]⟩, .slice none 0 0, .slice none 0 0]] X fun e w' => e = .returned (.tuple #[.string ⟨#[39, 110, 117, 108, 108]⟩, .bool true]) ∧ Below X.heap.size X w') := hid (fun X hX => by
    have := CT.out (leafT 4 0 ⟨#[110, 117, 108, 108]⟩) _ _ X hX (HL.out X 4 0 _ (by decide) (by decide) (by decide))
    rw [show celB (leafT 4 0 ⟨#[110, 117, 108, 108]⟩) = true by kernel_rfl, if_pos rfl, show mkS (celW (leafT 4 0 ⟨#[110, 117, 108, 108]⟩)) = ⟨#[39, 110, 117, 108, 108]⟩ by kernel_rfl] at this
    exact this)
  have C3 : Hid (∀ X, Below w.heap.size w X → Calls Tryd.prog 5 #[.agg #[.int .i64 5, .int .i64 0, .string ⟨#[]⟩, .slice none 0 0, .slice none 0 0]] X fun e w' => e = .returned (.tuple #[.string ⟨#[91, 93]⟩, .bool true]) ∧ Below X.heap.size X w') := hid (fun X hX => by
    have := CT.out (leafT 5 0 ⟨#[]⟩) _ _ X hX (HL.out X 5 0 _ (by decide) (by decide) (by decide))
    rw [show celB (leafT 5 0 ⟨#[]⟩) = true by kernel_rfl, if_pos rfl, show mkS (celW (leafT 5 0 ⟨#[]⟩)) = ⟨#[91, 93]⟩ by kernel_rfl] at this
    exact this)
  have C4 : Hid (∀ X, Below w.heap.size w X → Calls Tryd.prog 5 #[.agg #[.int .i64 5, .int .i64 0, .string ⟨#[]⟩, .slice (some ⟨X.heap.size, 0, none⟩) 1 1, .slice none 0 0]] (X.alloc (.cells #[.int .i64 0, .int .i64 0, .string ⟨#[]⟩, .slice none 0 0, .slice none 0 0] 29)) fun e w' => e = .returned (.tuple #[.string ⟨#[]⟩, .bool false]) ∧ Below X.heap.size X w') := hid (fun X hX => by
    have := CT.out (.mk 5 0 ⟨#[]⟩ [zeroT] [] []) _ _ _ (valloc_bel hX _) (hv_one X)
    rw [show celB (.mk 5 0 ⟨#[]⟩ [zeroT] [] []) = false by kernel_rfl, if_neg (by decide)] at this
    exact this.mono fun e w' h => ⟨h.1, vonto (valloc_bel (Below.refl _ _) _) h.2⟩)
  have C5 := hid (fun X (hX : Below w.heap.size w X) => cevalue_any ⟨#[]⟩ X (hg.1.on hX) (by decide))
  rw [show celT (⟨#[]⟩ : ByteArray).data.toList = (zeroT, 9) by kernel_rfl] at C5
  have C6 := hid (fun X (hX : Below w.heap.size w X) => cevalue_any ⟨#[64]⟩ X (hg.1.on hX) (by decide))
  rw [show celT (⟨#[64]⟩ : ByteArray).data.toList = (zeroT, 4) by kernel_rfl] at C6
  simp only [vv, zeroT, VT.kd, VT.nm, VT.st] at C5 C6
  clear hg HL CT
  go_enter Tryd.func3, Tryd.ntmps3
  go_wp2_with fail
  go_at_call 4
  refine CA.out.mono ?_
  rintro e w0 ⟨rfl, hb0⟩
  have HB0 := hid hb0
  clear hb0 CA
  go_wp2_with fail
  go_at_call 5
  refine (C1.out _ HB0.out).mono ?_
  rintro e w1 ⟨rfl, hb1⟩
  have HB1 := hid (vonto HB0.out hb1)
  clear hb1 C1
  go_wp2_with fail
  go_at_call 5
  refine (C2.out _ HB1.out).mono ?_
  rintro e w2 ⟨rfl, hb2⟩
  have HB2 := hid (vonto HB1.out hb2)
  clear hb2 C2
  go_wp2_with fail
  go_at_call 5
  refine (C3.out _ HB2.out).mono ?_
  rintro e w3 ⟨rfl, hb3⟩
  have HB3 := hid (vonto HB2.out hb3)
  clear hb3 C3
  go_wp2_with fail
  go_at_call 5
  refine (C4.out _ HB3.out).mono ?_
  rintro e w4 ⟨rfl, hb4⟩
  have HB4 := hid (vonto HB3.out hb4)
  clear hb4 C4
  go_wp2_with fail
  go_at_call 6
  refine (C5.out _ HB4.out).mono ?_
  rintro e w5 ⟨X, Y, rfl, hx, hb5⟩
  obtain ⟨o1, n1, c1, o2, n2, c2, rfl, rfl⟩ := hv_slices hx
  have HB5 := hid (vonto HB4.out hb5)
  clear hb5 hx C5
  go_upto_region 8 with fail
  refine cewp_gen ?_
  intro W hW
  obtain ⟨-, -, -, -, -, hbW⟩ := cebox_of hW
  have HB6 := hid (vonto HB5.out hbW)
  clear hW hbW
  go_wp2_with fail
  go_at_call 6
  refine (C6.out _ HB6.out).mono ?_
  rintro e w7 ⟨X, Y, rfl, hx, hb7⟩
  obtain ⟨o3, n3, c3, o4, n4, c4, rfl, rfl⟩ := hv_slices hx
  have HB7 := hid (vonto HB6.out hb7)
  clear hb7 hx C6
  go_upto_region 9 with fail
  refine cewp_gen ?_
  intro W2 hW
  obtain ⟨-, -, -, -, -, hbW⟩ := cebox_of hW
  have HB8 := hid (vonto HB7.out hbW)
  clear hW hbW
  go_wp2_with fail
  go_ret
  exact ⟨rfl, HB8.out⟩
end Go.Proofs.YtmncibjkgbmfjaaDoor
