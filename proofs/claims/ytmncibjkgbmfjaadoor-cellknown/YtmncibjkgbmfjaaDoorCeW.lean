/- The statements of stage 15: what they ask first. -/
import Derived.Test.YtmncibjkgbmfjaaDoorCeB
namespace Go.Proofs.YtmncibjkgbmfjaaDoor
open Go.RowKit

set_option maxRecDepth 100000 in
set_option maxHeartbeats 4000000 in
theorem awake15 (w : World) (hg : GlobC5 w) : Calls Tryd.prog 4 #[] w fun e w' => e = .returned (.bool true) ∧ Below w.heap.size w w' := by
  have HL : Hid (∀ X, HV X (leafT 4 0 ⟨#[53]⟩) (.slice none 0 0) (.slice none 0 0)) := hid (fun X => hv_leaf X 4 0 _ (by decide) (by decide) (by decide))
  have C1 : Hid (∀ X, Below w.heap.size w X → Calls Tryd.prog 5 #[.agg #[.int .i64 4, .int .i64 0, .string ⟨#[53]⟩, .slice none 0 0, .slice none 0 0]] X fun e w' => e = .returned (.tuple #[.string ⟨#[39, 53]⟩, .bool true]) ∧ Below X.heap.size X w') := hid (fun X hX => by
    have := cetext_any (leafT 4 0 ⟨#[53]⟩) _ _ X (hg.on hX) (HL.out X)
    rw [show celB (leafT 4 0 ⟨#[53]⟩) = true by kernel_rfl, if_pos rfl, show mkS (celW (leafT 4 0 ⟨#[53]⟩)) = ⟨#[39, 53]⟩ by kernel_rfl] at this
    exact this)
  have C2 := hid (fun X (hX : Below w.heap.size w X) => cevalue_any ⟨#[120]⟩ X (hg.1.on hX) (by decide))
  rw [show celT (⟨#[120]⟩ : ByteArray).data.toList = (leafT 4 0 ⟨#[120]⟩, 0) by kernel_rfl] at C2
  have C3 := hid (fun X (hX : Below w.heap.size w X) => cevalue_any ⟨#[49, 46, 53, 48]⟩ X (hg.1.on hX) (by decide))
  rw [show celT (⟨#[49, 46, 53, 48]⟩ : ByteArray).data.toList = (leafT 3 0 ⟨#[49, 46, 53, 48]⟩, 0) by kernel_rfl] at C3
  simp only [vv, leafT, VT.kd, VT.nm, VT.st] at C2 C3
  clear hg HL
  go_enter Tryd.func4, Tryd.ntmps4
  go_wp2_with fail
  go_at_call 5
  refine (C1.out _ (Below.refl _ _)).mono ?_
  rintro e w1 ⟨rfl, hb1⟩
  have HB1 := hid hb1
  clear hb1 C1
  go_wp2_with fail
  go_at_call 6
  refine (C2.out _ HB1.out).mono ?_
  rintro e w2 ⟨X, Y, rfl, hx, hb2⟩
  obtain ⟨o1, n1, c1, o2, n2, c2, rfl, rfl⟩ := hv_slices hx
  have HB2 := hid (vonto HB1.out hb2)
  clear hb2 hx C2
  go_upto_region 3 with fail
  refine cewp_gen ?_
  intro W hW
  obtain ⟨g0, -, g2, -, -, hbW⟩ := cebox_of hW
  have HBW := hid (vonto HB2.out hbW)
  clear hW hbW
  go_wp2_with fail
  go_at_call 6
  refine (C3.out _ HBW.out).mono ?_
  rintro e w3 ⟨X, Y, rfl, hx, hb3⟩
  obtain ⟨o3, n3, c3, o4, n4, c4, rfl, rfl⟩ := hv_slices hx
  have g0 := keepCell hb3 g0
  have g2 := keepCell hb3 g2
  have HB3 := hid (vonto HBW.out hb3)
  clear hb3 hx C3
  go_upto_region 4 with fail
  refine cewp_gen ?_
  intro W3 hW
  obtain ⟨v0, -, v2, -, -, hbW⟩ := cebox_of hW
  have g0 := keepCell hbW g0
  have g2 := keepCell hbW g2
  have HB4 := hid (vonto HB3.out hbW)
  clear hW hbW
  go_wp2_with fail
  go_ret
  exact ⟨rfl, HB4.out⟩
end Go.Proofs.YtmncibjkgbmfjaaDoor
