/- An argument that is a slice of strings. -/
import Derived.Test.YtjbccmnmcjmooaaDoorVInS
import Derived.WideShapes
namespace Go.Proofs.YtjbccmnmcjmooaaDoor
open Go.RowKit Go.WideShapes

theorem strs_of {H : Type} {enc : TypeId × Value → H} {w : World} {base : Nat} {spare : Nat → Bool} {held : Bool} (fuel : Nat) (v : Value) (x : DataW H × List MemPlace) (h : DataW.trod enc Tryd.prog w base spare held fuel 24 [v] = some x) : ∃ ks : List ByteArray, InS w ks v := by
  rcases DataW.trod_slice Tryd.underlying24 h with ⟨hc, -⟩ | ⟨a, len, cap, elems, rest, m2, hm2, hc, -, -, hlc, hcm, hel, hget, -, -⟩
  · cases hc
    exact ⟨[], default, ⟨none, 0, rfl, Nat.le_refl _, Nat.zero_le _, fun h => absurd h (by simp)⟩, fun i t h => by simp at h⟩
  · cases hc
    have key : ∀ i, ∃ r : ByteArray, i < len → w.cell? (a.add i) = some (.string r) ∧ r.size ≤ maxLen := by
      intro i
      by_cases hi : i < len
      · obtain ⟨z, ez⟩ := some_at hel hi
        have hg := (hget i hi).trans ez
        rw [Tryd.cells9] at hg
        obtain ⟨cs', h1, h2⟩ := Option.bind_eq_some_iff.1 hg
        obtain ⟨u, hu0, -, hu⟩ := DataW.trod_string Tryd.underlying9 h2
        subst hu0
        refine ⟨u, fun _ => ⟨?_, hu⟩⟩
        unfold World.cells? at h1
        split at h1
        · simp only [show List.range 1 = [0] from rfl, List.mapM_cons, List.mapM_nil] at h1
          rw [Nat.mul_one] at h1
          rw [show (a.add i).add 0 = a.add i by simp [Addr.add]] at h1
          cases h0 : w.cell? (a.add i) <;> simp [h0] at h1
          rw [h1]
        · cases h1
      · exact ⟨⟨#[]⟩, fun h => absurd h hi⟩
    obtain ⟨F, hF⟩ := Classical.axiomOfChoice key
    refine ⟨(List.range len).map F, a, ⟨some a, cap, by simp, by simpa using hlc, hcm, fun _ => rfl⟩, fun i c h => ?_⟩
    rw [List.getElem?_map] at h
    by_cases hi : i < len
    · rw [List.getElem?_range hi] at h; simp at h; subst h; exact hF i hi
    · rw [List.getElem?_eq_none (by simp; omega)] at h; simp at h
set_option maxRecDepth 100000 in
theorem open_strs {H : Type} {enc : TypeId × Value → H} {w W : World} {base b : Nat} {r : Reach} {spare : Nat → Bool} {held : Bool} {v : Value} {d : DataW H} {ps : List MemPlace}
    (hv : Value.okWide Tryd.prog W r b 24 v) (h : DataW.Trod enc Tryd.prog w base spare held 24 v d ps) : ∃ ks : List ByteArray, InS w ks v := by
  obtain ⟨a, len, cap, rfl⟩ := okWide_slice Tryd.underlying24 hv
  obtain ⟨fuel, hf⟩ := h
  exact strs_of fuel _ _ (by simpa [Value.cells] using hf)
end Go.Proofs.YtjbccmnmcjmooaaDoor
