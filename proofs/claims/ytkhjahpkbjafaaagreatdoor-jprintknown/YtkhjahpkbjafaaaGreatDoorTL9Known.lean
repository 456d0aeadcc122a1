/- The statement JprintKnown: walked. -/
import Derived.Test.YtkhjahpkbjafaaaGreatDoorTL9Base
namespace Go.Proofs.YtkhjahpkbjafaaaGreatDoor
open Go.RowKit

def tFour : VT := .mk 5 0 ⟨#[]⟩ [.mk 0 0 ⟨#[]⟩ [] [] [], .mk 1 0 ⟨#[]⟩ [] [] [], .mk 5 0 ⟨#[]⟩ [] [] [], .mk 7 0 ⟨#[120]⟩ [] [] []] [] []
def tNil : VT := .mk 5 0 ⟨#[]⟩ [] [] []
def tNine : VT := .mk 9 0 ⟨#[]⟩ [] [] []
def cFour : Array Value := #[.int .i64 0, .int .i64 0, .string ⟨#[]⟩, .slice none 0 0, .slice none 0 0, .int .i64 1, .int .i64 0, .string ⟨#[]⟩, .slice none 0 0, .slice none 0 0, .int .i64 5, .int .i64 0, .string ⟨#[]⟩, .slice none 0 0, .slice none 0 0, .int .i64 7, .int .i64 0, .string ⟨#[120]⟩, .slice none 0 0, .slice none 0 0]
theorem four_hv (w : World) (g : Nat) (h : ∀ i, w.cell? ⟨g, i, none⟩ = cFour[i]?) :
    HV w tFour (.slice (some ⟨g, 0, none⟩) 4 4) (.slice none 0 0) := by
  refine HV.mk ⟨g, 0, none⟩ ⟨0, 0, none⟩ (fun _ => .slice none 0 0) (fun _ => .slice none 0 0) (fun _ => .nilIface) (fun _ => .nilIface) (by decide) (by decide) (by decide) ⟨_, _, rfl, by decide, by unfold maxLen; omega, fun _ => rfl⟩ ⟨none, 0, rfl, Nat.le_refl _, Nat.zero_le _, fun h => absurd h (by simp)⟩ rfl (fun i t hi => ?_) (fun i u h => by simp at h) (fun i t h => by simp at h) (fun i t hi => ?_) (fun i t h => by simp at h)
  · rcases i with _ | _ | _ | _ | i
    · simp at hi; subst hi
      refine ⟨?_, ?_, ?_, ?_, ?_⟩ <;> simp [Addr.add, VT.kd, VT.nm, VT.st, h, cFour]
    · simp at hi; subst hi
      refine ⟨?_, ?_, ?_, ?_, ?_⟩ <;> simp [Addr.add, VT.kd, VT.nm, VT.st, h, cFour]
    · simp at hi; subst hi
      refine ⟨?_, ?_, ?_, ?_, ?_⟩ <;> simp [Addr.add, VT.kd, VT.nm, VT.st, h, cFour]
    · simp at hi; subst hi
      refine ⟨?_, ?_, ?_, ?_, ?_⟩ <;> simp [Addr.add, VT.kd, VT.nm, VT.st, h, cFour]
    · simp at hi
  · rcases i with _ | _ | _ | _ | i
    · simp at hi; subst hi; exact hv_leaf w 0 0 ⟨#[]⟩ (by decide) (by decide) (by decide)
    · simp at hi; subst hi; exact hv_leaf w 1 0 ⟨#[]⟩ (by decide) (by decide) (by decide)
    · simp at hi; subst hi; exact hv_leaf w 5 0 ⟨#[]⟩ (by decide) (by decide) (by decide)
    · simp at hi; subst hi; exact hv_leaf w 7 0 ⟨#[120]⟩ (by decide) (by decide) (by decide)
    · simp at hi
set_option maxRecDepth 100000 in
theorem four_wr : mkS (wrB false tFour) = ⟨#[91, 110, 117, 108, 108, 44, 102, 97, 108, 115, 101, 44, 91, 93, 44, 34, 120, 34, 93]⟩ ∧ mkS (wrB true tFour) = ⟨#[91, 10, 32, 32, 110, 117, 108, 108, 44, 10, 32, 32, 102, 97, 108, 115, 101, 44, 10, 32, 32, 91, 93, 44, 10, 32, 32, 34, 120, 34, 10, 93]⟩ := by
  constructor <;> kernel_rfl
theorem nil_wr : mkS (wrB true tNil) = ⟨#[91, 93]⟩ ∧ mkS (wrB false tNine) = ⟨#[]⟩ := by
  constructor <;> kernel_rfl
set_option maxRecDepth 100000 in
set_option maxHeartbeats 4000000 in
theorem Tryz.jprintKnown_walk (w : World) (hg : GlobP w) :
    Calls Tryz.prog 7 #[] w fun e w' => e = .returned (.bool true) ∧ Below w.heap.size w w' := by
  have HG := hid hg
  have CA := hid (awake9 w hg)
  have C1 := hid (fun (x : Value) X (hX : Below w.heap.size w X) (hv : HV X tFour x (.slice none 0 0)) => compact_any tFour x (.slice none 0 0) X (HG.out.on hX) hv)
  have C2 := hid (fun (x : Value) X (hX : Below w.heap.size w X) (hv : HV X tFour x (.slice none 0 0)) => indent_any tFour x (.slice none 0 0) X (HG.out.on hX) hv)
  have C3 := hid (fun X (hX : Below w.heap.size w X) => indent_any tNil (.slice none 0 0) (.slice none 0 0) X (HG.out.on hX) (hv_leaf X 5 0 ⟨#[]⟩ (by decide) (by decide) (by decide)))
  have C4 := hid (fun X (hX : Below w.heap.size w X) => compact_any tNine (.slice none 0 0) (.slice none 0 0) X (HG.out.on hX) (hv_leaf X 9 0 ⟨#[]⟩ (by decide) (by decide) (by decide)))
  rw [four_wr.1] at C1
  rw [four_wr.2] at C2
  rw [nil_wr.1] at C3
  rw [nil_wr.2] at C4
  simp only [vv, tFour, tNil, tNine, VT.kd, VT.nm, VT.st] at C1 C2 C3 C4
  clear hg
  go_enter Tryz.func7, Tryz.ntmps7
  go_wp2_with fail
  go_at_call 25
  refine CA.out.mono ?_
  rintro e w1 ⟨rfl, hb1⟩
  have HB1 := hid hb1
  clear hb1 CA
  go_upto_region 4 with fail
  have hs := World.size_alloc w1 (.cells #[.int .i64 0, .int .i64 0, .string ⟨#[]⟩, .slice none 0 0, .slice none 0 0, .int .i64 1, .int .i64 0, .string ⟨#[]⟩, .slice none 0 0, .slice none 0 0, .int .i64 5, .int .i64 0, .string ⟨#[]⟩, .slice none 0 0, .slice none 0 0, .int .i64 7, .int .i64 0, .string ⟨#[120]⟩, .slice none 0 0, .slice none 0 0] 27)
  have hk1 := valloc_bel (valloc_bel (Below.refl w1.heap.size w1) (.cells #[.int .i64 0, .int .i64 0, .string ⟨#[]⟩, .slice none 0 0, .slice none 0 0, .int .i64 1, .int .i64 0, .string ⟨#[]⟩, .slice none 0 0, .slice none 0 0, .int .i64 5, .int .i64 0, .string ⟨#[]⟩, .slice none 0 0, .slice none 0 0, .int .i64 7, .int .i64 0, .string ⟨#[120]⟩, .slice none 0 0, .slice none 0 0] 27)) (.cells #[.int .i64 5, .int .i64 0, .string ⟨#[]⟩, .slice (some ⟨w1.heap.size, 0, none⟩) 4 4, .slice none 0 0] 27)
  have hn := heap_alloc_new (w1.alloc (.cells #[.int .i64 0, .int .i64 0, .string ⟨#[]⟩, .slice none 0 0, .slice none 0 0, .int .i64 1, .int .i64 0, .string ⟨#[]⟩, .slice none 0 0, .slice none 0 0, .int .i64 5, .int .i64 0, .string ⟨#[]⟩, .slice none 0 0, .slice none 0 0, .int .i64 7, .int .i64 0, .string ⟨#[120]⟩, .slice none 0 0, .slice none 0 0] 27)) (.cells #[.int .i64 5, .int .i64 0, .string ⟨#[]⟩, .slice (some ⟨w1.heap.size, 0, none⟩) 4 4, .slice none 0 0] 27)
  rw [hs] at hn
  have ho := (Lib.alloc_old (w1.alloc (.cells #[.int .i64 0, .int .i64 0, .string ⟨#[]⟩, .slice none 0 0, .slice none 0 0, .int .i64 1, .int .i64 0, .string ⟨#[]⟩, .slice none 0 0, .slice none 0 0, .int .i64 5, .int .i64 0, .string ⟨#[]⟩, .slice none 0 0, .slice none 0 0, .int .i64 7, .int .i64 0, .string ⟨#[120]⟩, .slice none 0 0, .slice none 0 0] 27)) (.cells #[.int .i64 5, .int .i64 0, .string ⟨#[]⟩, .slice (some ⟨w1.heap.size, 0, none⟩) 4 4, .slice none 0 0] 27) w1.heap.size (by omega)).trans (heap_alloc_new w1 (.cells #[.int .i64 0, .int .i64 0, .string ⟨#[]⟩, .slice none 0 0, .slice none 0 0, .int .i64 1, .int .i64 0, .string ⟨#[]⟩, .slice none 0 0, .slice none 0 0, .int .i64 5, .int .i64 0, .string ⟨#[]⟩, .slice none 0 0, .slice none 0 0, .int .i64 7, .int .i64 0, .string ⟨#[120]⟩, .slice none 0 0, .slice none 0 0] 27))
  have HV1 := hid (four_hv _ w1.heap.size (fun i => cell_heap ho i))
  have b0 := cell_heap hn 0
  have b1 := cell_heap hn 1
  have b2 := cell_heap hn 2
  have b3 := cell_heap hn 3
  have b4 := cell_heap hn 4
  have HB2 := hid (vonto HB1.out hk1)
  clear hn ho hk1 HB1 hs
  generalize ((w1.alloc (.cells #[.int .i64 0, .int .i64 0, .string ⟨#[]⟩, .slice none 0 0, .slice none 0 0, .int .i64 1, .int .i64 0, .string ⟨#[]⟩, .slice none 0 0, .slice none 0 0, .int .i64 5, .int .i64 0, .string ⟨#[]⟩, .slice none 0 0, .slice none 0 0, .int .i64 7, .int .i64 0, .string ⟨#[120]⟩, .slice none 0 0, .slice none 0 0] 27)).alloc (.cells #[.int .i64 5, .int .i64 0, .string ⟨#[]⟩, .slice (some ⟨w1.heap.size, 0, none⟩) 4 4, .slice none 0 0] 27)) = W2 at b0 b1 b2 b3 b4 HV1 HB2 ⊢
  simp only [List.getElem?_toArray, List.getElem?_cons_zero, List.getElem?_cons_succ] at b0 b1 b2 b3 b4
  go_wp2_with fail
  go_at_call 26
  refine (C1.out _ _ HB2.out HV1.out).mono ?_
  rintro e w3 ⟨rfl, hb3⟩
  replace b0 := keepCell hb3 b0
  replace b1 := keepCell hb3 b1
  replace b2 := keepCell hb3 b2
  replace b3 := keepCell hb3 b3
  replace b4 := keepCell hb3 b4
  have HV3 := hid (HV1.out.onto hb3)
  have HB3 := hid (vonto HB2.out hb3)
  clear hb3 C1 HV1 HB2
  go_wp2_with fail
  go_at_call 27
  refine (C3.out _ HB3.out).mono ?_
  rintro e w4 ⟨rfl, hb4⟩
  replace b0 := keepCell hb4 b0
  replace b1 := keepCell hb4 b1
  replace b2 := keepCell hb4 b2
  replace b3 := keepCell hb4 b3
  replace b4 := keepCell hb4 b4
  have HV4 := hid (HV3.out.onto hb4)
  have HB4 := hid (vonto HB3.out hb4)
  clear hb4 C3 HV3 HB3
  go_wp2_with fail
  go_at_call 26
  refine (C4.out _ HB4.out).mono ?_
  rintro e w5 ⟨rfl, hb5⟩
  replace b0 := keepCell hb5 b0
  replace b1 := keepCell hb5 b1
  replace b2 := keepCell hb5 b2
  replace b3 := keepCell hb5 b3
  replace b4 := keepCell hb5 b4
  have HV5 := hid (HV4.out.onto hb5)
  have HB5 := hid (vonto HB4.out hb5)
  clear hb5 C4 HV4 HB4
  go_wp2_with fail
  go_at_call 27
  refine (C2.out _ _ HB5.out HV5.out).mono ?_
  rintro e w6 ⟨rfl, hb6⟩
  have HB6 := hid (vonto HB5.out hb6)
  clear hb6 C2 HV5 HB5
  go_wp2_with fail
  go_ret
  exact ⟨by first | rfl | exact ret_bool (by simp), HB6.out⟩
end Go.Proofs.YtkhjahpkbjafaaaGreatDoor
