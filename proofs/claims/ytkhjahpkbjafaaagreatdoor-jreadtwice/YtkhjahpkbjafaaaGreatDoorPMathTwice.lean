/- Plain mathematics: a key twice in one map, and in two. -/
import Derived.Test.YtkhjahpkbjafaaaGreatDoorPMathPairs
namespace Go.Proofs.YtkhjahpkbjafaaaGreatDoor
open Go.RowKit

/-- a key of digits that is not that one -/
def k2B (key : List UInt8) (i : Nat) : List UInt8 := if 110 :: txt (i : Int) = key then [109] else 110 :: txt (i : Int)
theorem k2_not (key : List UInt8) (i : Nat) : k2B key i ≠ key := by
  unfold k2B
  split
  · rename_i h; rw [← h]; intro e; injection e with e _; revert e; decide
  · assumption
theorem txt_small : ∀ i < 10, txt ((i : Nat) : Int) = [UInt8.ofNat (48 + i)] := by decide +kernel
theorem k2_apart (key : List UInt8) {i j : Nat} (hi : i < 10) (hj : j < 10) (h : i ≠ j) : k2B key i ≠ k2B key j := by
  have e1 := txt_small i hi
  have e2 := txt_small j hj
  have hne : ¬ txt (i : Int) = txt (j : Int) := by
    rw [e1, e2]
    intro e
    injection e with e _
    have := congrArg UInt8.toNat e
    rw [UInt8.toNat_ofNat', UInt8.toNat_ofNat'] at this
    omega
  unfold k2B
  split
  · split
    · rename_i h1 h2; rw [← h2] at h1; injection h1 with _ h1; exact absurd h1 hne
    · intro e; injection e with e _; revert e; decide
  · split
    · intro e; injection e with e _; revert e; decide
    · intro e; injection e with _ e; exact hne e
theorem k2_plain (key : List UInt8) (i : Nat) (hi : i < 10) : qtA false (k2B key i) = 34 :: (k2B key i ++ [34]) ∧ (k2B key i).length ≤ 2 ∧ Vl (k2B key i) := by
  have h1 : ∀ i < 10, qtA false (110 :: txt ((i : Nat) : Int)) = 34 :: ((110 :: txt ((i : Nat) : Int)) ++ [34]) ∧ (110 :: txt ((i : Nat) : Int)).length ≤ 2 ∧ ∀ b ∈ (110 :: txt ((i : Nat) : Int)), b.toNat < 128 := by decide +kernel
  unfold k2B
  split
  · exact ⟨by decide, by decide, vl_ascii (by decide)⟩
  · exact ⟨(h1 i hi).1, (h1 i hi).2.1, vl_ascii (h1 i hi).2.2⟩
/-- the pairs -/
def tw0 (key : List UInt8) : Qp := ⟨key, [.nu [48]], leafT 2 0 ⟨#[]⟩, 1⟩
def twI (key : List UInt8) (i : Nat) : Qp := ⟨k2B key i, [.sg 123, .st key, .sg 58, .nu [49], .sg 125], mapT (insA [] [(mkS key, leafT 2 1 ⟨#[]⟩)]), 2⟩
def tws (key : List UInt8) (n : Nat) : List Qp := (List.range n).map (twI key)
theorem tws_succ (key : List UInt8) (n : Nat) : tws key (n + 1) = tws key n ++ [twI key n] := by unfold tws; rw [List.range_succ, List.map_append]; rfl
theorem tw0_ok {key : List UInt8} (hv : Vl key) (hl : key.length ≤ 4096) : QOk 1 (tw0 key) := by
  refine ⟨fun a => ?_, fun R hR => ⟨⟨by decide, fun x hx => (hR x (by simpa [txs] using hx)).1⟩, trivial⟩, hv, hl⟩
  have := rds_one (x := ⟨3, [48], a⟩) (d := 2) (beg_kd (by simp) (by simp)) (by simp) (by simp) (by omega)
  exact this
theorem twI_ok {key : List UInt8} (hv : Vl key) (hl : key.length ≤ 4096) (i : Nat) (hi : i < 10) : QOk 1 (twI key i) := by
  obtain ⟨-, h2, h3⟩ := k2_plain key i hi
  refine ⟨fun a => ?_, fun R hR => ⟨sg_ok (by decide), ⟨hv, hl⟩, sg_ok (by decide), ⟨by decide, fun x hx => ?_⟩, sg_ok (by decide), trivial⟩, h3, by unfold twI; simp only; omega⟩
  · have h1 := rds_one (x := ⟨3, [49], a + 1 + (qtA false key).length + 1⟩) (d := 3) (beg_kd (by simp) (by simp)) (by simp) (by simp) (by omega)
    have := rds_map (d := 2) (o := ⟨1, [123], a⟩) (c := ⟨1, [125], a + 1 + (qtA false key).length + 1 + 1⟩) (by omega) (RdM.one (xk := ⟨2, key, a + 1⟩) (xc := ⟨1, [58], a + 1 + (qtA false key).length⟩) rfl rfl h1) (by simp) rfl rfl
    exact this
  · simp [txs, Tk.tx] at hx; subst hx; decide
theorem tws_ok {key : List UInt8} (hv : Vl key) (hl : key.length ≤ 4096) (n : Nat) (hn : n ≤ 10) : ∀ x ∈ tw0 key :: tws key n, QOk 1 x := by
  intro x hx
  rcases List.mem_cons.1 hx with rfl | hx
  · exact tw0_ok hv hl
  · unfold tws at hx
    obtain ⟨i, hi, rfl⟩ := List.mem_map.1 hx
    exact twI_ok hv hl i (by have := List.mem_range.1 hi; omega)
theorem mkS_inj {a b : List UInt8} (h : mkS a = mkS b) : a = b := by rw [← mkS_list a, h, mkS_list]
theorem tw_nodup (key : List UInt8) (n : Nat) (hn : n ≤ 10) : ((prP (tw0 key :: tws key n)).map (·.1)).Nodup := by
  have e : (prP (tw0 key :: tws key n)).map (·.1) = mkS key :: (List.range n).map (fun i => mkS (k2B key i)) := by
    unfold prP tws tw0 twI; simp
  rw [e, List.nodup_cons]
  refine ⟨fun h => ?_, ?_⟩
  · obtain ⟨i, -, hi⟩ := List.mem_map.1 h
    exact k2_not key i (mkS_inj hi)
  · rw [List.Nodup, List.pairwise_map]
    refine (List.pairwise_lt_range (n := n)).imp_of_mem (fun {a b} ha hb hab he => ?_)
    have h1 := List.mem_range.1 ha
    have h2 := List.mem_range.1 hb
    exact k2_apart key (by omega) (by omega) (by omega) (mkS_inj he)
theorem prN_map (key : List UInt8) (n : Nat) : prN (tws key n) = 2 * n := by
  induction n with
  | zero => rfl
  | succ n ih =>
    have h : ∀ A B, prN (A ++ B) = prN A + prN B := by
      intro A B
      induction A with
      | nil => simp [prN]
      | cons a A ih => rw [List.cons_append, prN, prN, ih]; omega
    rw [tws_succ, h, ih]
    simp [prN, twI]; omega
/-- the text, so far -/
def twB (key : List UInt8) (n : Nat) : List UInt8 := 123 :: txs (prT (tw0 key :: tws key n))
theorem twB_zero (key : List UInt8) : twB key 0 = 123 :: (qtA false key ++ [58, 48]) := by
  unfold twB
  rw [show tws key 0 = [] from rfl, tx_one]
  simp [pcQ, tw0, txs, Tk.tx]
theorem twB_next (key : List UInt8) (n : Nat) (hn : n < 10) : twB key (n + 1) = twB key n ++ ([44, 34] ++ (k2B key n ++ ([34, 58, 123] ++ (qtA false key ++ [58, 49, 125])))) := by
  unfold twB
  rw [tws_succ, ← List.cons_append, tx_back]
  simp [pcQ, twI, txs, Tk.tx, (k2_plain key n hn).1]
theorem twB_len (key : List UInt8) (hk : key.length ≤ 60) : ∀ n, n ≤ 10 → (twB key n).length ≤ 400 + n * 400
  | 0, _ => by
    have h1 : (qtA false key).length ≤ 362 := by
      unfold qtA
      have h2 := qtK_len false key (cnt key)
      have h3 := cnt_le key
      rw [List.length_append, List.length_singleton]; omega
    rw [twB_zero]; simp; omega
  | n + 1, hn => by
    have ih := twB_len key hk n (by omega)
    have h1 : (qtA false key).length ≤ 362 := by
      unfold qtA
      have h2 := qtK_len false key (cnt key)
      have h3 := cnt_le key
      rw [List.length_append, List.length_singleton]; omega
    have h4 := (k2_plain key n (by omega)).2.1
    rw [twB_next key n (by omega)]; simp; omega
theorem tw_reads (key : List UInt8) (hv : Vl key) (hk : key.length ≤ 60) (n : Nat) (hn : n ≤ 10) : ∃ t m z, jrA (twB key n ++ [125]) = .ok t m z := by
  have hl := twB_len key hk n hn
  unfold twB at hl ⊢
  obtain ⟨z, hz⟩ := mp_reads (tw0 key) (tws key n) (tws_ok hv (by omega) n hn) (tw_nodup key n hn) (by rw [prN, prN_map]; simp [tw0]; omega) (by simp at hl ⊢; omega)
  exact ⟨_, _, z, hz⟩
theorem tw_twice (key : List UInt8) (hv : Vl key) (hk : key.length ≤ 60) (n : Nat) (hn : n ≤ 10) : jrA (twB key n ++ ([44] ++ (qtA false key ++ [58, 50, 125]))) = .bad 5 ((twB key n).length + 1) := by
  have hl := twB_len key hk n hn
  have h1 : (qtA false key).length ≤ 362 := by
    unfold qtA
    have h2 := qtK_len false key (cnt key)
    have h3 := cnt_le key
    rw [List.length_append, List.length_singleton]; omega
  unfold twB at hl ⊢
  have := mp_twice (tw0 key) (tws key n) (tws_ok hv (by omega) n hn) (tw_nodup key n hn) (by rw [prN, prN_map]; simp [tw0]; omega) key (by unfold prP; simp [tw0]) hv (by omega) (by simp at hl ⊢; omega)
  exact this
end Go.Proofs.YtkhjahpkbjafaaaGreatDoor
