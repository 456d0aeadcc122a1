/- What ValueKnown asks of single texts and trees. -/
import Derived.Test.YtnpojefcibfgkaaGreatDoorVConst
import Derived.Laws.IdiomStrings
namespace Go.Proofs.YtnpojefcibfgkaaGreatDoor
open Go.RowKit

theorem tk_ascii (a : UInt8) (t : List UInt8) (h : a.toNat < 128) : tkN (a :: t) = 1 := by
  have hb : begN a.toNat = 1 := by unfold begN; rw [if_pos h]
  have ho : tkOk a t = true := by
    unfold tkOk
    rw [hb]
    have hr : begR a.toNat = a.toNat := by unfold begR; rw [if_pos h]
    simp only [Nat.sub_self, List.take_zero, fol, List.foldl_nil, hr]
    simp [goodN, wdN, h]
    omega
  simp only [tkN, ho, if_true, hb]
theorem ascii_ok (l : List UInt8) (h : ∀ b ∈ l, b.toNat < 128) : pos l (vlk l) = l.length := by
  have step : ∀ k, k < l.length → tkN (l.drop k) = 1 := by
    intro k hk
    rw [List.drop_eq_getElem_cons hk]
    exact tk_ascii _ _ (h _ (List.getElem_mem _))
  have hp : ∀ k, k ≤ l.length → pos l k = k := by
    intro k
    induction k with
    | zero => intro _; rfl
    | succ k ih =>
      intro hk
      rw [pos, ih (by omega), stp, step k (by omega)]
      omega
  have hv : l.length = vlk l := vlk_eq l l.length (by unfold vgo; rw [hp _ (Nat.le_refl _)]; simp) (fun j hj => by
    unfold vgo
    rw [hp j (by omega), step j hj]
    simp; exact hj) (Nat.le_refl _)
  rw [← hv, hp _ (Nat.le_refl _)]
/-- a text of that many noughts -/
def zeros (n : Nat) : ByteArray := ⟨(List.replicate n (0 : UInt8)).toArray⟩
theorem zeros_size (n : Nat) : (zeros n).size = n := by show (List.replicate n (0 : UInt8)).toArray.size = n; simp
theorem zeros_te (n : Nat) (h : 4096 < n) : teI (zeros n) = 2 := by
  have hl : (zeros n).data.toList = List.replicate n 0 := by simp [zeros]
  unfold teI
  rw [hl, ascii_ok _ (fun b hb => by rw [List.eq_of_mem_replicate hb]; decide), zeros_size, List.length_replicate, if_pos rfl, if_pos h]
theorem Tryz.made5 (w : World) : (Instr.makeSlice 31 (.int .i64 4097) (.int .i64 4097)).run Tryz.prog w = .ok (.slice (some ⟨w.heap.size, 0, none⟩) 4097 4097) (w.alloc (.cells (madeCells #[.int .u8 0] 4097) 5)) := by
  obtain ⟨i, hi, hz⟩ := Option.map_eq_some_iff.1 (show (Tryz.prog.info? 5).map (fun i => (i.zero, i.size, i.bytes)) = some (some (.int .u8 0), 1, 1) by kernel_rfl)
  simp only [Prod.mk.injEq] at hz
  obtain ⟨hz, hs, hb⟩ := hz
  have := run_make (P := Tryz.prog) w 31 5 i _ Tryz.underlying31 hi hz .i64 .i64 4097 4097 (by omega) (Int.le_refl _) (by rw [hb]; omega) (by omega)
  rw [hs] at this
  exact this
theorem Tryz.conv5 (w : World) : (convert 31 9 (.slice (some ⟨w.heap.size, 0, none⟩) 4097 4097)).run Tryz.prog (w.alloc (.cells (madeCells #[.int .u8 0] 4097) 5)) = .ok (.string (zeros 4097)) (w.alloc (.cells (madeCells #[.int .u8 0] 4097) 5)) := by
  have := run_convert_bytes_back (P := Tryz.prog) (w.alloc (.cells (madeCells #[.int .u8 0] 4097) 5)) 31 9 5 ⟨w.heap.size, 0, none⟩ 4097 (List.replicate 4097 0) Tryz.underlying31 Tryz.underlying5 Tryz.underlying9 (fun j hj => by
    rw [List.length_replicate] at hj
    rw [add_at, World.cell?_alloc_new]
    unfold madeCells
    rw [Array.getElem?_map, Array.getElem?_range, if_pos hj, List.getElem_replicate]
    simp [Nat.mod_one])
  rw [List.length_replicate] at this
  exact this
def c150 : ByteArray := ⟨#[49, 46, 53, 48]⟩
def c15e : ByteArray := ⟨#[49, 53, 101, 45, 49]⟩
def cFF : ByteArray := ⟨#[255]⟩
def c5 : ByteArray := ⟨#[53]⟩
theorem j_num : numR cX = zeroT ∧ numE cX = 1 ∧ numR c150 = leafT 3 0 c150 ∧ numE c150 = 0 ∧ numR c15e = leafT 3 0 c15e ∧ numE c15e = 0 := ⟨by kernel_rfl, by kernel_rfl, by kernel_rfl, by kernel_rfl, by kernel_rfl, by kernel_rfl⟩
theorem j_str : teI cFF = 3 ∧ strR cFF = zeroT := ⟨by kernel_rfl, by kernel_rfl⟩
theorem j_stamp : stampR ⟨#[]⟩ = zeroT ∧ stampE ⟨#[]⟩ = 1 := ⟨by kernel_rfl, by kernel_rfl⟩
theorem j_ke : keI [cA, cA] = 5 := by decide
theorem j_get : getO (leafT 3 0 c150) cA = none := by kernel_rfl
theorem j_same : sameT true (leafT 3 0 c150) (leafT 3 0 c15e) = true ∧ sameT false (leafT 3 0 c150) (leafT 3 0 c15e) = false := ⟨by kernel_rfl, by kernel_rfl⟩
theorem j_may : mayB 0 1 (leafT 9 0 ⟨#[]⟩) = false ∧ mayB 0 1 (leafT 3 0 c5) = false ∧ mayB 0 1 (leafT 0 0 cX) = false := ⟨by kernel_rfl, by kernel_rfl, by kernel_rfl⟩
theorem strR_bad (s : ByteArray) (h : ¬ teI s = 0) : strR s = zeroT := by unfold strR; rw [if_neg h]
/-- a key twice -/
theorem dup_map (w : World) : Calls Tryz.prog 13 #[.slice (some ⟨w.heap.size, 0, none⟩) 2 2] (w.alloc (.cells #[.string ⟨#[97]⟩, .int .i64 0, .int .i64 0, .string ⟨#[]⟩, .slice none 0 0, .slice none 0 0, .string ⟨#[97]⟩, .int .i64 0, .int .i64 0, .string ⟨#[]⟩, .slice none 0 0, .slice none 0 0] 34)) fun e w' => ∃ o1 n1 c1 o2 n2 c2, e = .returned (.tuple #[.agg #[.int .i64 0, .int .i64 0, .string ⟨#[]⟩, .slice o1 n1 c1, .slice o2 n2 c2], .int .i64 5]) ∧ Below w.heap.size w w' := by
  have hin := in_pairs w [(cA, zeroT, .slice none 0 0, .slice none 0 0), (cA, zeroT, .slice none 0 0, .slice none 0 0)] 34 (fun a ha => by
    simp only [List.mem_cons, List.not_mem_nil, or_false, or_self] at ha
    subst ha
    exact ⟨by decide, hv_zero w⟩) (by decide)
  refine (vmap_any [(cA, zeroT), (cA, zeroT)] _ w.heap.size 0 2 hin (by decide) (by decide)).mono ?_
  rintro e w' ⟨A', X, Y, hp, hr, rfl, hf, hb⟩
  have hA : A' = [(cA, zeroT), (cA, zeroT)] := by
    have h2 : A'.length = 2 := hp.length_eq
    match A', h2 with
    | [x, y], _ =>
      have hx : x = (cA, zeroT) := by have := hp.subset (show x ∈ [x, y] by simp); simpa using this
      have hy : y = (cA, zeroT) := by have := hp.subset (show y ∈ [x, y] by simp); simpa using this
      rw [hx, hy]
  subst hA
  have e1 : mapR [(cA, zeroT), (cA, zeroT)] = zeroT := by unfold mapR; rw [show keI ([(cA, zeroT), (cA, zeroT)].map (·.1)) = 5 from j_ke]; rfl
  rw [e1] at hf ⊢
  rw [show keI ([(cA, zeroT), (cA, zeroT)].map (·.1)) = 5 from j_ke]
  obtain ⟨o1, n1, c1, o2, n2, c2, rfl, rfl⟩ := hv_slices hf.hv
  exact ⟨o1, n1, c1, o2, n2, c2, rfl, vonto (valloc_bel (Below.refl _ _) _) hb⟩
end Go.Proofs.YtnpojefcibfgkaaGreatDoor
