/- What the statements of chapter 10 ask first: walked. -/
import Derived.Test.YtiafcbmmadikcaaGreatDoorTlN
import Derived.Test.YtiafcbmmadikcaaGreatDoorTlS
import Derived.Test.YtiafcbmmadikcaaGreatDoorVRise
namespace Go.Proofs.YtiafcbmmadikcaaGreatDoor
open Go.RowKit

theorem aw_key : kyA [97, 46, 34, 98, 32, 99, 34, 46, 100] 0 = ([[97], [98, 32, 99], [100]], 9, -1) := by kernel_rfl
theorem aw_pl : (plT [48, 120, 49, 70] 0).V = .tuple #[.agg #[.int .i64 2, .int .i64 31, .string ⟨#[]⟩, nilS, nilS], .int .i64 4, .int .i64 0, .int .i64 0] := by kernel_rfl
theorem aw_nu : vv (tnR [49, 95, 48, 48, 48, 46, 53]) nilS nilS = .agg #[.int .i64 3, .int .i64 0, .string ⟨#[49, 48, 48, 48, 46, 53]⟩, nilS, nilS] ∧ tnE [49, 95, 48, 48, 48, 46, 53] = 0 := by constructor <;> kernel_rfl
theorem aw_st : stB [50, 48, 50, 52, 45, 48, 50, 45, 50, 57, 84, 49, 48, 58, 48, 48, 58, 48, 48, 90] = true := by kernel_rfl
theorem aw_sk : skA true [32, 9, 35, 32, 120, 10, 121] 0 = 6 := by kernel_rfl
theorem str_is (s : ByteArray) (k : List UInt8) (h : s.data.toList = k) : (s.toList == k) = true := by rw [str_eq s k h]; simp
/-- the parts of a key that lie in a row -/
theorem row_str {w : World} {base : Nat} {v : Value} {l : List (List UInt8)} (h : w.ownsRow base 9 1 v l.length (strV l)) (h0 : 0 < l.length) : ∃ g cap, v = .slice (some ⟨g, 0, none⟩) l.length cap ∧ (∀ (j : Nat) p, l[j]? = some p → w.cell? ⟨g, j, none⟩ = some (.string (mkS p))) := by
  have hs := h
  rcases hs with ⟨-, h1 | ⟨g, cap, cur, rfl, -⟩⟩
  · exact absurd h1.2 (by omega)
  · refine ⟨g, cap, rfl, fun j p hj => ?_⟩
    have hlt := (List.getElem?_eq_some_iff.1 hj).1
    rw [h.cellAt j (by omega), strV, List.getElem?_map, hj]; rfl
set_option maxRecDepth 100000 in
set_option maxHeartbeats 4000000 in
theorem awake10 (w : World) (hg : GlobN w) :
    Calls Tryz.prog 6 #[] w fun e w' => e = .returned (.bool true) ∧ Below w.heap.size w w' := by
  have C1 := tkey_any ⟨#[97, 46, 34, 98, 32, 99, 34, 46, 100]⟩ 0 w (by decide)
  rw [show (⟨#[97, 46, 34, 98, 32, 99, 34, 46, 100]⟩ : ByteArray).data.toList = [97, 46, 34, 98, 32, 99, 34, 46, 100] from rfl, aw_key] at C1
  have C2 := hid (fun X (h : Below w.heap.size w X) => tplain_any ⟨#[48, 120, 49, 70]⟩ 0 X (by decide) (hg.on h))
  rw [show (⟨#[48, 120, 49, 70]⟩ : ByteArray).data.toList = [48, 120, 49, 70] from rfl, aw_pl] at C2
  have C3 := hid (fun X (h : Below w.heap.size w X) => tnumber_any ⟨#[49, 95, 48, 48, 48, 46, 53]⟩ X (by decide) (hg.on h))
  rw [show (⟨#[49, 95, 48, 48, 48, 46, 53]⟩ : ByteArray).data.toList = [49, 95, 48, 48, 48, 46, 53] from rfl, aw_nu.1, aw_nu.2] at C3
  have C4 := hid (fun X (h : Below w.heap.size w X) => tstamp_any ⟨#[50, 48, 50, 52, 45, 48, 50, 45, 50, 57, 84, 49, 48, 58, 48, 48, 58, 48, 48, 90]⟩ X (by decide) (hg.t.m.on h))
  rw [show (⟨#[50, 48, 50, 52, 45, 48, 50, 45, 50, 57, 84, 49, 48, 58, 48, 48, 58, 48, 48, 90]⟩ : ByteArray).data.toList = [50, 48, 50, 52, 45, 48, 50, 45, 50, 57, 84, 49, 48, 58, 48, 48, 58, 48, 48, 90] from rfl, aw_st] at C4
  have C5 := hid (fun X => tskip_any ⟨#[32, 9, 35, 32, 120, 10, 121]⟩ 0 true X (by decide))
  rw [show (⟨#[32, 9, 35, 32, 120, 10, 121]⟩ : ByteArray).data.toList = [32, 9, 35, 32, 120, 10, 121] from rfl, aw_sk] at C5
  have C1' := hid C1
  obtain ⟨nb, hnb⟩ : ∃ b : ByteArray, b = ⟨#[49, 48, 48, 48, 46, 53]⟩ := ⟨_, rfl⟩
  rw [← hnb] at C3
  have qn : (nb.toList == [49, 48, 48, 48, 46, 53]) = true := str_is _ _ (by rw [hnb])
  have qk : ((mkS [98, 32, 99]).toList == [98, 32, 99]) = true := str_is _ _ rfl
  clear hnb hg C1
  go_enter Tryz.func6, Tryz.ntmps6
  go_wp2_with fail
  go_at_call 15
  refine C1'.out.mono ?_
  rintro e w1 ⟨v, rfl, hown, hb1⟩
  obtain ⟨g, cap, rfl, hc⟩ := row_str hown (by decide)
  have c1 := hc 1 _ rfl
  have HB1 := hid hb1
  clear hown hc hb1 C1'
  generalize mkS [98, 32, 99] = kb at *
  go_wp2_with fail
  go_at_call 8
  refine (C2.out _ HB1.out).mono ?_
  rintro e w2 ⟨rfl, hb2⟩
  replace c1 := keepCell hb2 c1
  have HB2 := hid (vonto HB1.out hb2)
  clear hb2 HB1
  go_upto_region 3 with fail
  refine wp_gen ?_
  intro W2 hW
  have hk := new_cells w2 [.int .i64 2, .int .i64 31, .string ⟨#[]⟩, .slice none 0 0, .slice none 0 0] 27
  have a1 : W2.cell? ⟨w2.heap.size, 1, none⟩ = some (.int .i64 31) := by rw [hW]; exact (addz _ 1) ▸ hk 1 _ rfl
  have hba : Below w2.heap.size w2 W2 := by rw [hW]; exact valloc_bel (Below.refl _ _) _
  replace c1 := keepCell hba c1
  have HB3 := hid (vonto HB2.out hba)
  clear hW hk hba HB2
  go_wp2_with fail
  go_at_call 7
  refine (C3.out _ HB3.out).mono ?_
  rintro e w4 ⟨rfl, hb4⟩
  replace c1 := keepCell hb4 c1
  replace a1 := keepCell hb4 a1
  have HB4 := hid (vonto HB3.out hb4)
  clear hb4 HB3
  go_upto_region 4 with fail
  refine wp_gen ?_
  intro W4 hW
  have hk := new_cells w4 [.int .i64 3, .int .i64 0, .string nb, .slice none 0 0, .slice none 0 0] 27
  have d0 : W4.cell? ⟨w4.heap.size, 0, none⟩ = some (.int .i64 3) := by rw [hW]; exact (addz _ 0) ▸ hk 0 _ rfl
  have d2 : W4.cell? ⟨w4.heap.size, 2, none⟩ = some (.string nb) := by rw [hW]; exact (addz _ 2) ▸ hk 2 _ rfl
  have hba : Below w4.heap.size w4 W4 := by rw [hW]; exact valloc_bel (Below.refl _ _) _
  replace c1 := keepCell hba c1
  replace a1 := keepCell hba a1
  have HB5 := hid (vonto HB4.out hba)
  clear hW hk hba HB4
  go_wp2_with (first
    | (go_at_call 9; go_must (refine (C4.out _ HB5.out).mono ?_; rintro e w6 ⟨rfl, hb6⟩))
    | (go_at_call 16; go_must (refine (C5.out _).mono ?_; rintro e w7 ⟨rfl, hb7⟩)))
  go_ret
  exact ⟨rfl, vonto (vonto HB5.out hb6) hb7⟩
end Go.Proofs.YtiafcbmmadikcaaGreatDoor
