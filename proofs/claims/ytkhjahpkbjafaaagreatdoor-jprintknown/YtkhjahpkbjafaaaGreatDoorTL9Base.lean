/- What the laws of JSON's printer share: a map of a one, awake. -/
import Derived.Test.YtkhjahpkbjafaaaGreatDoorTJpL
namespace Go.Proofs.YtkhjahpkbjafaaaGreatDoor
open Go.RowKit

def tOne : VT := .mk 6 0 ⟨#[]⟩ [] [⟨#[97]⟩] [.mk 2 1 ⟨#[]⟩ [] [] []]
theorem one_hv (w : World) (g cap : Nat) (hc1 : 1 ≤ cap) (hc2 : cap ≤ maxLen) (h0 : w.cell? ⟨g, 0, none⟩ = some (.string ⟨#[97]⟩)) (h1 : w.cell? ⟨g, 1, none⟩ = some (.int .i64 2)) (h2 : w.cell? ⟨g, 2, none⟩ = some (.int .i64 1)) (h3 : w.cell? ⟨g, 3, none⟩ = some (.string ⟨#[]⟩)) (h4 : w.cell? ⟨g, 4, none⟩ = some (.slice none 0 0)) (h5 : w.cell? ⟨g, 5, none⟩ = some (.slice none 0 0)) :
    HV w tOne (.slice none 0 0) (.slice (some ⟨g, 0, none⟩) 1 cap) := by
  have hleaf : HV w (.mk 2 1 ⟨#[]⟩ [] [] []) (.slice none 0 0) (.slice none 0 0) := hv_leaf w 2 1 ⟨#[]⟩ (by decide) (by decide) (by decide)
  refine HV.mk ⟨0, 0, none⟩ ⟨g, 0, none⟩ (fun _ => .nilIface) (fun _ => .nilIface) (fun _ => .slice none 0 0) (fun _ => .slice none 0 0) (by decide) (by decide) (by decide) ⟨none, 0, rfl, Nat.le_refl _, Nat.zero_le _, fun h => absurd h (by simp)⟩ ⟨_, _, rfl, hc1, hc2, fun _ => rfl⟩ rfl (fun i t h => by simp at h) (fun i u h => ?_) (fun i t h => ?_) (fun i t h => by simp at h) (fun i t h => ?_)
  · cases i with
    | zero => simp at h; subst h; exact ⟨by simpa [Addr.add] using h0, by decide⟩
    | succ i => simp at h
  · cases i with
    | zero =>
      simp at h; subst h
      refine ⟨?_, ?_, ?_, ?_, ?_⟩
      · simpa [Addr.add, nx, VT.kd] using h1
      · simpa [Addr.add, nx, VT.nm] using h2
      · simpa [Addr.add, nx, VT.st] using h3
      · simpa [Addr.add, nx] using h4
      · simpa [Addr.add, nx] using h5
    | succ i => simp at h
  · cases i with
    | zero => simp at h; subst h; exact hleaf
    | succ i => simp at h
set_option maxRecDepth 100000 in
set_option maxHeartbeats 1000000 in
theorem one_any (w : World) :
    Calls Tryz.prog 37 #[] w fun e w' => ∃ y, e = .returned (vv tOne (.slice none 0 0) y) ∧ HV w' tOne (.slice none 0 0) y ∧ Below w.heap.size w w' := by
  go_enter Tryz.func37, Tryz.ntmps37
  go_wp2_with fail
  have hs := World.size_alloc w (.cells #[.int .i64 6, .int .i64 0, .string ⟨#[]⟩, .slice none 0 0, .slice (some ⟨w.heap.size + 1, 0, none⟩) 1 1] 27)
  have hB : Below w.heap.size w ((w.alloc (.cells #[.int .i64 6, .int .i64 0, .string ⟨#[]⟩, .slice none 0 0, .slice (some ⟨w.heap.size + 1, 0, none⟩) 1 1] 27)).alloc (.cells #[.string ⟨#[97]⟩, .int .i64 2, .int .i64 1, .string ⟨#[]⟩, .slice none 0 0, .slice none 0 0] 52)) := valloc_bel (valloc_bel (Below.refl _ _) _) _
  have hn := heap_alloc_new (w.alloc (.cells #[.int .i64 6, .int .i64 0, .string ⟨#[]⟩, .slice none 0 0, .slice (some ⟨w.heap.size + 1, 0, none⟩) 1 1] 27)) (.cells #[.string ⟨#[97]⟩, .int .i64 2, .int .i64 1, .string ⟨#[]⟩, .slice none 0 0, .slice none 0 0] 52)
  rw [hs] at hn
  have ho := (Lib.alloc_old _ (.cells #[.string ⟨#[97]⟩, .int .i64 2, .int .i64 1, .string ⟨#[]⟩, .slice none 0 0, .slice none 0 0] 52) w.heap.size (by omega)).trans (heap_alloc_new w (.cells #[.int .i64 6, .int .i64 0, .string ⟨#[]⟩, .slice none 0 0, .slice (some ⟨w.heap.size + 1, 0, none⟩) 1 1] 27))
  have b0 := cell_heap ho 0
  have b1 := cell_heap ho 1
  have b2 := cell_heap ho 2
  have b3 := cell_heap ho 3
  have b4 := cell_heap ho 4
  have HV1 := one_hv _ (w.heap.size + 1) 1 (Nat.le_refl _) (by unfold maxLen; omega) (cell_heap hn 0) (cell_heap hn 1) (cell_heap hn 2) (cell_heap hn 3) (cell_heap hn 4) (cell_heap hn 5)
  generalize ((w.alloc (.cells #[.int .i64 6, .int .i64 0, .string ⟨#[]⟩, .slice none 0 0, .slice (some ⟨w.heap.size + 1, 0, none⟩) 1 1] 27)).alloc (.cells #[.string ⟨#[97]⟩, .int .i64 2, .int .i64 1, .string ⟨#[]⟩, .slice none 0 0, .slice none 0 0] 52)) = W at b0 b1 b2 b3 b4 HV1 hB ⊢
  simp only [List.getElem?_toArray, List.getElem?_cons_zero, List.getElem?_cons_succ] at b0 b1 b2 b3 b4
  exact bodyPost_ret (v := vv tOne (.slice none 0 0) (.slice (some ⟨w.heap.size + 1, 0, none⟩) 1 1)) (by simp [results, Tryz.results37, go_sem, vv, tOne, VT.kd, VT.nm, VT.st, b0, b1, b2, b3, b4]) rfl ⟨_, rfl, HV1, hB⟩
theorem one_wr : mkS (wrB false tOne) = ⟨#[123, 34, 97, 34, 58, 49, 125]⟩ ∧ mkS (wrB true tOne) = ⟨#[123, 10, 32, 32, 34, 97, 34, 58, 32, 49, 10, 125]⟩ := by
  constructor <;> kernel_rfl
set_option maxRecDepth 100000 in
set_option maxHeartbeats 1000000 in
theorem awake9 (w : World) (hg : GlobP w) :
    Calls Tryz.prog 25 #[] w fun e w' => e = .returned (.bool true) ∧ Below w.heap.size w w' := by
  have HG := hid hg
  have CO := hid (fun X => one_any X)
  have CC := hid (fun (y : Value) X (hX : Below w.heap.size w X) (hv : HV X tOne (.slice none 0 0) y) => compact_any tOne (.slice none 0 0) y X (HG.out.on hX) hv)
  have CI := hid (fun (y : Value) X (hX : Below w.heap.size w X) (hv : HV X tOne (.slice none 0 0) y) => indent_any tOne (.slice none 0 0) y X (HG.out.on hX) hv)
  rw [one_wr.1] at CC
  rw [one_wr.2] at CI
  clear hg
  go_enter Tryz.func25, Tryz.ntmps25
  go_wp2_with fail
  go_at_call 37
  refine (CO.out _).mono ?_
  rintro e w1 ⟨y1, rfl, hv1, hb1⟩
  go_wp2_with fail
  go_at_call 26
  refine (CC.out _ _ hb1 hv1).mono ?_
  rintro e w2 ⟨rfl, hb2⟩
  have HB2 := hid (vonto hb1 hb2)
  clear hb1 hb2 hv1
  go_wp2_with fail
  go_at_call 37
  refine (CO.out _).mono ?_
  rintro e w3 ⟨y3, rfl, hv3, hb3⟩
  have HB3 := hid (vonto HB2.out hb3)
  go_wp2_with fail
  go_at_call 27
  refine (CI.out _ _ HB3.out hv3).mono ?_
  rintro e w4 ⟨rfl, hb4⟩
  have HB4 := hid (vonto HB3.out hb4)
  clear hb3 hv3 hb4
  go_wp2_with fail
  go_ret
  exact ⟨rfl, HB4.out⟩
end Go.Proofs.YtkhjahpkbjafaaaGreatDoor
