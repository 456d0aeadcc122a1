/- Lists one in the other, and long lists of nothing: the mathematics of ValueNests. -/
import Derived.Test.YtnpojefcibfgkaaGreatDoorVConst
namespace Go.Proofs.YtnpojefcibfgkaaGreatDoor
open Go.RowKit

/-- lists one in the other -/
def nest : Nat → VT
  | 0 => zeroT
  | d + 1 => .mk 5 0 ⟨#[]⟩ [nest d] [] []
theorem nest_sz : ∀ d, szT (nest d) = d + 1 ∧ hgT (nest d) = d + 1
  | 0 => by decide
  | d + 1 => by
    have := nest_sz d
    simp only [nest, szT, szL, hgT, hgL, this.1, this.2]
    omega
theorem node_list (L : List VT) : nodeB (.mk 5 0 ⟨#[]⟩ L [] []) = true := by
  unfold nodeB nodeC
  simp [VT.kd, VT.nm, VT.st, VT.vs]
theorem node_zero : nodeB zeroT = true := by kernel_rfl
theorem plain_zero : plainT zeroT = true := by rw [plainT_eq, node_zero]; rfl
theorem nest_plain : ∀ d, plainT (nest d) = true
  | 0 => plain_zero
  | d + 1 => by
    rw [plainT_eq, nest, node_list]
    simp only [VT.ls, VT.vs, plainL, nest_plain d]
    rfl
theorem nest_may (d : Nat) (h : d ≤ 39) : mayB 0 1 (nest d) = decide ((d : Int) + 1 ≤ 32) := by
  unfold mayB
  rw [nest_plain, (nest_sz d).1, (nest_sz d).2, Bool.and_true, decide_eq_decide]
  omega
/-- a list of nothings -/
def wideT (n : Nat) : VT := .mk 5 0 ⟨#[]⟩ (List.replicate n zeroT) [] []
theorem szL_rep : ∀ n, szL (List.replicate n zeroT) = n
  | 0 => rfl
  | n + 1 => by
    rw [List.replicate_succ, szL, szL_rep n, show szT zeroT = 1 from by decide]; omega
theorem hgL_rep : ∀ n, hgL (List.replicate n zeroT) ≤ 1
  | 0 => by decide
  | n + 1 => by
    rw [List.replicate_succ, hgL, show hgT zeroT = 1 from by decide]
    have := hgL_rep n
    omega
theorem plainL_rep : ∀ n, plainL (List.replicate n zeroT) = true
  | 0 => rfl
  | n + 1 => by rw [List.replicate_succ, plainL, plainL_rep n, plain_zero]; rfl
theorem wide_sz (n : Nat) : szT (wideT n) = n + 1 := by
  rw [sz_both]; show 1 + szL (List.replicate n zeroT) + szL [] = _; rw [szL_rep]; simp only [szL]; omega
theorem wide_may (n : Nat) : mayB 0 1 (wideT n) = decide ((n : Int) < 4096) := by
  unfold mayB
  have hh : hgT (wideT n) ≤ 2 := by
    rw [hg_both]
    have := hgL_rep n
    show 1 + max (hgL (List.replicate n zeroT)) (hgL []) ≤ 2
    simp only [hgL]; omega
  rw [wide_sz, plainT_eq, show nodeB (wideT n) = true from node_list _, show plainL (wideT n).ls = true from plainL_rep n, show plainL (wideT n).vs = true from rfl]
  simp only [Bool.and_true]
  rw [decide_eq_decide]
  omega
/-- a row of nothings, just made -/
theorem in_made (w : World) (n : Nat) (hn : n ≤ 1000000) : InL (w.alloc (.cells (madeCells #[.int .i64 0, .int .i64 0, .string ⟨#[]⟩, .slice none 0 0, .slice none 0 0] (n * 5)) 27)) (List.replicate n zeroT) (.slice (some ⟨w.heap.size, 0, none⟩) n n) := by
  have key : ∀ i c, i < n → c < 5 → (w.alloc (.cells (madeCells #[.int .i64 0, .int .i64 0, .string ⟨#[]⟩, .slice none 0 0, .slice none 0 0] (n * 5)) 27)).cell? ⟨w.heap.size, i * 5 + c, none⟩ = some (#[Value.int .i64 0, .int .i64 0, .string ⟨#[]⟩, .slice none 0 0, .slice none 0 0][c]!) := by
    intro i c hi hc
    rw [World.cell?_alloc_new]
    unfold madeCells
    rw [Array.getElem?_map, Array.getElem?_range]
    rw [if_pos (by omega)]
    simp only [Option.map_some]
    congr 2
    show (i * 5 + c) % 5 = c
    omega
  refine ⟨⟨w.heap.size, 0, none⟩, fun _ => .slice none 0 0, fun _ => .slice none 0 0, ⟨some ⟨w.heap.size, 0, none⟩, n, by simp, by simp, by unfold maxLen; omega, fun _ => rfl⟩, fun i t ht => ?_, fun i t ht => ?_⟩
  · have hi := lt_of_some ht
    rw [List.length_replicate] at hi
    rw [List.getElem?_replicate, if_pos hi] at ht
    cases ht
    rw [add_at]
    have h0 := key i 0 hi (by omega)
    rw [Nat.add_zero] at h0
    exact ⟨h0, key i 1 hi (by omega), key i 2 hi (by omega), key i 3 hi (by omega), key i 4 hi (by omega)⟩
  · have hi := lt_of_some ht
    rw [List.length_replicate] at hi
    rw [List.getElem?_replicate, if_pos hi] at ht
    cases ht
    exact hv_zero _
theorem hv_wide (w : World) (n : Nat) (hn : n ≤ 1000000) : HV (w.alloc (.cells (madeCells #[.int .i64 0, .int .i64 0, .string ⟨#[]⟩, .slice none 0 0, .slice none 0 0] (n * 5)) 27)) (wideT n) (.slice (some ⟨w.heap.size, 0, none⟩) n n) (.slice none 0 0) :=
  hv_in list_wf.1 list_wf.2.2 (by decide) (in_made w n hn) (in_nil _)
/-- one more list around -/
theorem list_one (w : World) (j : Nat) (hj : j ≤ 39) (o : Option Addr) (n c : Nat) (h : HV w (nest j) (.slice o n c) (.slice none 0 0)) :
    Calls Tryz.prog 35 #[.slice (some ⟨w.heap.size, 0, none⟩) 1 1] (w.alloc (.cells #[.int .i64 (nest j).kd, .int .i64 (nest j).nm, .string (nest j).st, .slice o n c, .slice none 0 0] 27)) fun e w' => ∃ o' n' c', e = .returned (.agg #[.int .i64 5, .int .i64 0, .string ⟨#[]⟩, .slice o' n' c', .slice none 0 0]) ∧ HF w' (w.heap.size + 1) w'.heap.size (nest (j + 1)) (.slice o' n' c') (.slice none 0 0) ∧ Below w.heap.size w w' := by
  have hin := in_list w [(nest j, .slice o n c, .slice none 0 0)] 27 (fun a ha => by simp only [List.mem_cons, List.not_mem_nil, or_false] at ha; subst ha; exact h) (show 1 ≤ maxLen by decide)
  refine (vlist_any [nest j] _ _ hin (by have := (nest_sz j).1; simp only [szL]; omega)).mono ?_
  rintro e w' ⟨X, rfl, hf, hb⟩
  obtain ⟨o1, n1, c1, o2, n2, c2, rfl, e2⟩ := hv_slices hf.hv
  exact ⟨o1, n1, c1, rfl, hf.wide (by simp) (Nat.le_refl _), vonto (valloc_bel (Below.refl _ _) _) hb⟩
theorem nest_cells (j : Nat) : ∃ k : Int, (nest j).kd = k ∧ (nest j).nm = 0 ∧ (nest j).st = ⟨#[]⟩ := by cases j <;> exact ⟨_, rfl, rfl, rfl⟩
end Go.Proofs.YtnpojefcibfgkaaGreatDoor
