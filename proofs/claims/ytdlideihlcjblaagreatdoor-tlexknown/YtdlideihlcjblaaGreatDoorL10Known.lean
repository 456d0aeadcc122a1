/- The statement TlexKnown: walked. -/
import Derived.Test.YtdlideihlcjblaaGreatDoorL10A
namespace Go.Proofs.YtdlideihlcjblaaGreatDoor
open Go.RowKit

theorem kn1 : vv (tnR [57, 50, 50, 51, 51, 55, 50, 48, 51, 54, 56, 53, 52, 55, 55, 53, 56, 48, 56]) nilS nilS = .agg #[.int .i64 0, .int .i64 0, .string ⟨#[]⟩, nilS, nilS] ∧ tnE [57, 50, 50, 51, 51, 55, 50, 48, 51, 54, 56, 53, 52, 55, 55, 53, 56, 48, 56] = 6 := by constructor <;> kernel_rfl
theorem kn2 : vv (tnR [48, 49]) nilS nilS = .agg #[.int .i64 0, .int .i64 0, .string ⟨#[]⟩, nilS, nilS] ∧ tnE [48, 49] = 4 := by constructor <;> kernel_rfl
theorem kn3 : vv (tnR [49, 95, 95, 48]) nilS nilS = .agg #[.int .i64 0, .int .i64 0, .string ⟨#[]⟩, nilS, nilS] ∧ tnE [49, 95, 95, 48] = 4 := by constructor <;> kernel_rfl
theorem kn4 : vv (tnR [45, 110, 97, 110]) nilS nilS = .agg #[.int .i64 7, .int .i64 0, .string ⟨#[45, 110, 97, 110]⟩, nilS, nilS] ∧ tnE [45, 110, 97, 110] = 0 := by constructor <;> kernel_rfl
theorem kn5 : (plT [120] 1).V = .tuple #[.agg #[.int .i64 0, .int .i64 0, .string ⟨#[]⟩, nilS, nilS], .int .i64 0, .int .i64 4, .int .i64 1] := by kernel_rfl
theorem kn6 : (plT [50, 48, 50, 52, 45, 48, 49, 45, 48, 49, 32, 49, 48, 58, 48, 48, 58, 48, 48] 0).V = .tuple #[.agg #[.int .i64 7, .int .i64 0, .string ⟨#[50, 48, 50, 52, 45, 48, 49, 45, 48, 49, 32, 49, 48, 58, 48, 48, 58, 48, 48]⟩, nilS, nilS], .int .i64 19, .int .i64 0, .int .i64 0] := by kernel_rfl
theorem kn7 : stB [50, 48, 50, 51, 45, 48, 50, 45, 50, 57] = false := by kernel_rfl
theorem kn8 : stB [50, 52, 58, 48, 48, 58, 48, 48] = false := by kernel_rfl
theorem kn9 : stB [] = false := by kernel_rfl
set_option maxRecDepth 100000 in
set_option maxHeartbeats 8000000 in
theorem Tryz.tlexKnown_walk (w : World) (hg : GlobN w) :
    Calls Tryz.prog 3 #[] w fun e w' => e = .returned (.bool true) ∧ Below w.heap.size w w' := by
  have CA := hid (awake10 w hg)
  have C1 := hid (fun X (h : Below w.heap.size w X) => tnumber_any ⟨#[57, 50, 50, 51, 51, 55, 50, 48, 51, 54, 56, 53, 52, 55, 55, 53, 56, 48, 56]⟩ X (by decide) (hg.on h))
  rw [show (⟨#[57, 50, 50, 51, 51, 55, 50, 48, 51, 54, 56, 53, 52, 55, 55, 53, 56, 48, 56]⟩ : ByteArray).data.toList = [57, 50, 50, 51, 51, 55, 50, 48, 51, 54, 56, 53, 52, 55, 55, 53, 56, 48, 56] from rfl, kn1.1, kn1.2] at C1
  have C2 := hid (fun X (h : Below w.heap.size w X) => tnumber_any ⟨#[48, 49]⟩ X (by decide) (hg.on h))
  rw [show (⟨#[48, 49]⟩ : ByteArray).data.toList = [48, 49] from rfl, kn2.1, kn2.2] at C2
  have C3 := hid (fun X (h : Below w.heap.size w X) => tnumber_any ⟨#[49, 95, 95, 48]⟩ X (by decide) (hg.on h))
  rw [show (⟨#[49, 95, 95, 48]⟩ : ByteArray).data.toList = [49, 95, 95, 48] from rfl, kn3.1, kn3.2] at C3
  have C4 := hid (fun X (h : Below w.heap.size w X) => tnumber_any ⟨#[45, 110, 97, 110]⟩ X (by decide) (hg.on h))
  rw [show (⟨#[45, 110, 97, 110]⟩ : ByteArray).data.toList = [45, 110, 97, 110] from rfl, kn4.1, kn4.2] at C4
  have C5 := hid (fun X (h : Below w.heap.size w X) => tplain_any ⟨#[120]⟩ 1 X (by decide) (hg.on h))
  rw [show (⟨#[120]⟩ : ByteArray).data.toList = [120] from rfl, kn5] at C5
  have C6 := hid (fun X (h : Below w.heap.size w X) => tplain_any ⟨#[50, 48, 50, 52, 45, 48, 49, 45, 48, 49, 32, 49, 48, 58, 48, 48, 58, 48, 48]⟩ 0 X (by decide) (hg.on h))
  rw [show (⟨#[50, 48, 50, 52, 45, 48, 49, 45, 48, 49, 32, 49, 48, 58, 48, 48, 58, 48, 48]⟩ : ByteArray).data.toList = [50, 48, 50, 52, 45, 48, 49, 45, 48, 49, 32, 49, 48, 58, 48, 48, 58, 48, 48] from rfl, kn6] at C6
  have C7 := hid (fun X (h : Below w.heap.size w X) => tstamp_any ⟨#[50, 48, 50, 51, 45, 48, 50, 45, 50, 57]⟩ X (by decide) (hg.t.m.on h))
  rw [show (⟨#[50, 48, 50, 51, 45, 48, 50, 45, 50, 57]⟩ : ByteArray).data.toList = [50, 48, 50, 51, 45, 48, 50, 45, 50, 57] from rfl, kn7] at C7
  have C8 := hid (fun X (h : Below w.heap.size w X) => tstamp_any ⟨#[50, 52, 58, 48, 48, 58, 48, 48]⟩ X (by decide) (hg.t.m.on h))
  rw [show (⟨#[50, 52, 58, 48, 48, 58, 48, 48]⟩ : ByteArray).data.toList = [50, 52, 58, 48, 48, 58, 48, 48] from rfl, kn8] at C8
  have C9 := hid (fun X (h : Below w.heap.size w X) => tstamp_any ⟨#[]⟩ X (by decide) (hg.t.m.on h))
  rw [show (⟨#[]⟩ : ByteArray).data.toList = [] from rfl, kn9] at C9
  obtain ⟨s4, hs4⟩ : ∃ b : ByteArray, b = ⟨#[45, 110, 97, 110]⟩ := ⟨_, rfl⟩
  have q4 : (s4.toList == [45, 110, 97, 110]) = true := str_is _ _ (by rw [hs4])
  have q6 : ((⟨#[50, 48, 50, 52, 45, 48, 49, 45, 48, 49, 32, 49, 48, 58, 48, 48, 58, 48, 48]⟩ : ByteArray).toList == [50, 48, 50, 52, 45, 48, 49, 45, 48, 49, 32, 49, 48, 58, 48, 48, 58, 48, 48]) = true := str_is _ _ rfl
  have q4b : ((⟨#[45, 110, 97, 110]⟩ : ByteArray).toList == [45, 110, 97, 110]) = true := str_is _ _ rfl
  clear hg hs4
  go_enter Tryz.func3, Tryz.ntmps3
  go_wp2_with fail
  go_at_call 10
  refine CA.out.mono ?_
  rintro e w0 ⟨rfl, hb0⟩
  have HB0 := hid hb0
  clear hb0 CA
  go_wp2_with fail
  go_at_call 11
  refine (C1.out _ HB0.out).mono ?_
  rintro e w1 ⟨rfl, hb⟩
  have HC1 := hid (vonto HB0.out hb)
  clear hb HB0
  go_upto_region 4 with fail
  refine wp_gen ?_
  intro W1 hW
  have hk := new_cells w1 [.int .i64 0, .int .i64 0, .string ⟨#[]⟩, .slice none 0 0, .slice none 0 0] 27
  have hba : Below w1.heap.size w1 W1 := by rw [hW]; exact valloc_bel (Below.refl _ _) _
  have HB1 := hid (vonto HC1.out hba)
  clear hW hk hba HC1
  go_wp2_with fail
  go_at_call 11
  refine (C2.out _ HB1.out).mono ?_
  rintro e w2 ⟨rfl, hb⟩
  have HC2 := hid (vonto HB1.out hb)
  clear hb HB1
  go_upto_region 5 with fail
  refine wp_gen ?_
  intro W2 hW
  have hk := new_cells w2 [.int .i64 0, .int .i64 0, .string ⟨#[]⟩, .slice none 0 0, .slice none 0 0] 27
  have hba : Below w2.heap.size w2 W2 := by rw [hW]; exact valloc_bel (Below.refl _ _) _
  have HB2 := hid (vonto HC2.out hba)
  clear hW hk hba HC2
  go_wp2_with fail
  go_at_call 11
  refine (C3.out _ HB2.out).mono ?_
  rintro e w3 ⟨rfl, hb⟩
  have HC3 := hid (vonto HB2.out hb)
  clear hb HB2
  go_upto_region 6 with fail
  refine wp_gen ?_
  intro W3 hW
  have hk := new_cells w3 [.int .i64 0, .int .i64 0, .string ⟨#[]⟩, .slice none 0 0, .slice none 0 0] 27
  have hba : Below w3.heap.size w3 W3 := by rw [hW]; exact valloc_bel (Below.refl _ _) _
  have HB3 := hid (vonto HC3.out hba)
  clear hW hk hba HC3
  go_wp2_with fail
  go_at_call 11
  refine (C4.out _ HB3.out).mono ?_
  rintro e w4 ⟨rfl, hb⟩
  have HC4 := hid (vonto HB3.out hb)
  clear hb HB3
  go_upto_region 7 with fail
  refine wp_gen ?_
  intro W4 hW
  have hk := new_cells w4 [.int .i64 7, .int .i64 0, .string ⟨#[45, 110, 97, 110]⟩, .slice none 0 0, .slice none 0 0] 27
  have d0 : W4.cell? ⟨w4.heap.size, 0, none⟩ = some (.int .i64 7) := by rw [hW]; exact (addz _ 0) ▸ hk 0 _ rfl
  have d2 : W4.cell? ⟨w4.heap.size, 2, none⟩ = some (.string ⟨#[45, 110, 97, 110]⟩) := by rw [hW]; exact (addz _ 2) ▸ hk 2 _ rfl
  have hba : Below w4.heap.size w4 W4 := by rw [hW]; exact valloc_bel (Below.refl _ _) _
  have HB4 := hid (vonto HC4.out hba)
  clear hW hk hba HC4
  go_wp2_with fail
  go_at_call 12
  refine (C5.out _ HB4.out).mono ?_
  rintro e w5 ⟨rfl, hb⟩
  replace d0 := keepCell hb d0
  replace d2 := keepCell hb d2
  have HC5 := hid (vonto HB4.out hb)
  clear hb HB4
  go_upto_region 8 with fail
  refine wp_gen ?_
  intro W5 hW
  have hk := new_cells w5 [.int .i64 0, .int .i64 0, .string ⟨#[]⟩, .slice none 0 0, .slice none 0 0] 27
  have hba : Below w5.heap.size w5 W5 := by rw [hW]; exact valloc_bel (Below.refl _ _) _
  replace d0 := keepCell hba d0
  replace d2 := keepCell hba d2
  have HB5 := hid (vonto HC5.out hba)
  clear hW hk hba HC5
  go_wp2_with fail
  go_at_call 12
  refine (C6.out _ HB5.out).mono ?_
  rintro e w6 ⟨rfl, hb⟩
  replace d0 := keepCell hb d0
  replace d2 := keepCell hb d2
  have HC6 := hid (vonto HB5.out hb)
  clear hb HB5
  go_upto_region 9 with fail
  refine wp_gen ?_
  intro W6 hW
  have hk := new_cells w6 [.int .i64 7, .int .i64 0, .string ⟨#[50, 48, 50, 52, 45, 48, 49, 45, 48, 49, 32, 49, 48, 58, 48, 48, 58, 48, 48]⟩, .slice none 0 0, .slice none 0 0] 27
  have f2 : W6.cell? ⟨w6.heap.size, 2, none⟩ = some (.string ⟨#[50, 48, 50, 52, 45, 48, 49, 45, 48, 49, 32, 49, 48, 58, 48, 48, 58, 48, 48]⟩) := by rw [hW]; exact (addz _ 2) ▸ hk 2 _ rfl
  have hba : Below w6.heap.size w6 W6 := by rw [hW]; exact valloc_bel (Below.refl _ _) _
  replace d0 := keepCell hba d0
  replace d2 := keepCell hba d2
  have HB6 := hid (vonto HC6.out hba)
  clear hW hk hba HC6
  go_wp2_with (go_at_call 13; go_must (first
    | ((with_reducible refine (C7.out _ HB6.out).mono ?_); rintro e w7 ⟨rfl, hb7⟩)
    | ((with_reducible refine (C8.out _ (vonto HB6.out hb7)).mono ?_); rintro e w8 ⟨rfl, hb8⟩)
    | ((with_reducible refine (C9.out _ (vonto (vonto HB6.out hb7) hb8)).mono ?_); rintro e w9 ⟨rfl, hb9⟩)))
  go_ret
  exact ⟨rfl, vonto (vonto (vonto HB6.out hb7) hb8) hb9⟩
end Go.Proofs.YtdlideihlcjblaaGreatDoor
