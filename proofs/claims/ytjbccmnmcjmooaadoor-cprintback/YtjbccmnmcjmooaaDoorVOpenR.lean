/- An argument that is a slice of slices of strings. -/
import Derived.Test.YtjbccmnmcjmooaaDoorVOpenS
import Derived.Test.YtjbccmnmcjmooaaDoorCpC
namespace Go.Proofs.YtjbccmnmcjmooaaDoor
open Go.RowKit Go.WideShapes

theorem Tryd.pcells : Tryd.prog.cellsOf 24 = 1 := by kernel_rfl
theorem rows_of {H : Type} {enc : TypeId × Value → H} {w : World} {base : Nat} {spare : Nat → Bool} {held : Bool} (fuel : Nat) (v : Value) (x : DataW H × List MemPlace) (h : DataW.trod enc Tryd.prog w base spare held fuel 25 [v] = some x) : ∃ rows : List (List ByteArray), InR w rows v := by
  rcases DataW.trod_slice Tryd.underlying25 h with ⟨hc, -⟩ | ⟨a, len, cap, elems, rest, m2, hm2, hc, -, -, hlc, hcm, hel, hget, -, -⟩
  · cases hc
    exact ⟨[], default, ⟨none, 0, rfl, Nat.le_refl _, Nat.zero_le _, fun h => absurd h (by simp)⟩, fun i t h => by simp at h⟩
  · cases hc
    have key : ∀ i, ∃ r : List ByteArray, i < len → ∃ u, w.cell? (a.add i) = some u ∧ InS w r u := by
      intro i
      by_cases hi : i < len
      · obtain ⟨z, ez⟩ := some_at hel hi
        have hg := (hget i hi).trans ez
        rw [Tryd.pcells] at hg
        obtain ⟨cs', h1, h2⟩ := Option.bind_eq_some_iff.1 hg
        unfold World.cells? at h1
        split at h1
        · simp only [show List.range 1 = [0] from rfl, List.mapM_cons, List.mapM_nil] at h1
          rw [Nat.mul_one] at h1
          rw [show (a.add i).add 0 = a.add i by simp [Addr.add]] at h1
          cases h0 : w.cell? (a.add i) with
          | none => simp [h0] at h1
          | some u =>
            simp [h0] at h1
            subst h1
            obtain ⟨ks, hks⟩ := strs_of _ u z h2
            exact ⟨ks, fun _ => ⟨u, rfl, hks⟩⟩
        · cases h1
      · exact ⟨[], fun h => absurd h hi⟩
    obtain ⟨F, hF⟩ := Classical.axiomOfChoice key
    refine ⟨(List.range len).map F, a, ⟨some a, cap, by simp, by simpa using hlc, hcm, fun _ => rfl⟩, fun i c h => ?_⟩
    rw [List.getElem?_map] at h
    by_cases hi : i < len
    · rw [List.getElem?_range hi] at h; simp at h; subst h; exact hF i hi
    · rw [List.getElem?_eq_none (by simp; omega)] at h; simp at h
set_option maxRecDepth 100000 in
theorem open_rows {H : Type} {enc : TypeId × Value → H} {w W : World} {base b : Nat} {r : Reach} {spare : Nat → Bool} {held : Bool} {v : Value} {d : DataW H} {ps : List MemPlace}
    (hv : Value.okWide Tryd.prog W r b 25 v) (h : DataW.Trod enc Tryd.prog w base spare held 25 v d ps) : ∃ rows : List (List ByteArray), InR w rows v := by
  obtain ⟨a, len, cap, rfl⟩ := okWide_slice Tryd.underlying25 hv
  obtain ⟨fuel, hf⟩ := h
  exact rows_of fuel _ _ (by simpa [Value.cells] using hf)
end Go.Proofs.YtjbccmnmcjmooaaDoor
