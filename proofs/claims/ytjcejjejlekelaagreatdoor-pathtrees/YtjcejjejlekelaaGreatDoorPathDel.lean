import Derived.Deep.RegionLaw
import Derived.Deep.MidRow
import Derived.Laws.IdiomCopy
import Derived.Test.YtjcejjejlekelaaGreatDoorVRise
import Derived.Test.YtjcejjejlekelaaGreatDoorVBox
import Derived.Test.YtjcejjejlekelaaGreatDoorOrders
import Derived.Test.YtjcejjejlekelaaGreatDoorPathTree
import Derived.Test.YtjcejjejlekelaaGreatDoorPathFind
/- slices.Delete of one element, in place. -/
/- A part of a node taken away: what then lies in memory. -/
/- path.remove, walked. -/
/- path.remove, walked: the walk. -/
/- path.Drop, walked. -/
namespace Go.Proofs.YtjcejjejlekelaaGreatDoor
open Go.RowKit

theorem cells_far (b : Nat) : ∀ (vs : List Value) (o : Nat) (w : World) (x : Nat), x ≠ b → (w.setCells b o vs).heap[x]? = w.heap[x]?
  | [], _, _, _, _ => rfl
  | v :: r, o, w, x, h => by
    show ((w.setCell ⟨b, o, none⟩ v).setCells b (o + 1) r).heap[x]? = _
    rw [cells_far b r (o + 1) _ x h]
    exact Below.heap_setCell _ _ _ _ h
theorem cells_bel {B b : Nat} {a : World} (hb : B ≤ b) : ∀ (vs : List Value) (o : Nat) (w : World), Below B a w → Below B a (w.setCells b o vs)
  | [], _, _, h => h
  | v :: r, o, _, h => cells_bel hb r (o + 1) _ (h.setCell (p := ⟨b, o, none⟩) hb v)
theorem cells_size (b : Nat) : ∀ (vs : List Value) (o : Nat) (w : World), (w.setCells b o vs).heap.size = w.heap.size
  | [], _, _ => rfl
  | v :: r, o, w => by
    show ((w.setCell ⟨b, o, none⟩ v).setCells b (o + 1) r).heap.size = _
    rw [cells_size b r (o + 1) _]
    simp
/-- a row in which m cells from o + k on have moved to o; the k cells behind them are whatever -/
structure Moved (w w' : World) (b o m k : Nat) : Prop where
  below : ∀ j, j < o → w'.cell? ⟨b, j, none⟩ = w.cell? ⟨b, j, none⟩
  moved : ∀ j, j < m → w'.cell? ⟨b, o + j, none⟩ = w.cell? ⟨b, o + k + j, none⟩
  far : ∀ x, x < w.heap.size → x ≠ b → w'.heap[x]? = w.heap[x]?
  bel : ∀ B, B ≤ b → Below B w w'
  size : w'.heap.size = w.heap.size
theorem Tryz.infoVal : (Tryz.prog.info? 31).map (fun i => (i.zero, i.size, i.bytes)) = some (some (.agg #[.int .i64 0, .int .i64 0, .string ⟨#[]⟩, .slice none 0 0, .slice none 0 0]), 5, 80) := by kernel_rfl
set_option maxRecDepth 100000 in
set_option maxHeartbeats 2000000 in
theorem delV_any (b n i : Nat) (w : World) (hi : i < n) (hn : n ≤ 1000000) (hc : ∀ o, o < n * 5 → ∃ u, w.cell? ⟨b, o, none⟩ = some u ∧ u.oneCell' = true) (hf : ∀ o, w.frozen? ⟨b, o, none⟩ = false) :
    Calls Tryz.prog 68 #[.slice (some ⟨b, 0, none⟩) n n, .int .i64 (i : Int), .int .i64 ((i : Int) + 1)] w fun e w' => e = .returned (.slice (some ⟨b, 0, none⟩) (n - 1) n) ∧ Moved w w' b (i * 5) ((n - 1 - i) * 5) 5 := by
  obtain ⟨i0, hi0, hz0, hz1, hz2⟩ := info_parts Tryz.infoVal
  obtain ⟨news, hnews⟩ : ∃ news, news = (List.range ((n - 1 - i) * 5)).map fun j => (w.cell? ⟨b, (i + 1) * 5 + j, none⟩).getD undef := ⟨_, rfl⟩
  have hlen : news.length = (n - 1 - i) * 5 := by rw [hnews]; simp
  have hget : ∀ j u, news[j]? = some u → j < (n - 1 - i) * 5 ∧ w.cell? ⟨b, (i + 1) * 5 + j, none⟩ = some u ∧ u.oneCell' = true := by
    intro j u hu
    have hj : j < (n - 1 - i) * 5 := by rw [← hlen]; exact lt_of_some hu
    obtain ⟨u', h1, h2⟩ := hc ((i + 1) * 5 + j) (by omega)
    rw [hnews, List.getElem?_map, List.getElem?_range hj] at hu
    simp only [Option.map_some, h1, Option.getD_some, Option.some.injEq] at hu
    subst hu
    exact ⟨hj, h1, h2⟩
  obtain ⟨A, hA, hsrc⟩ : ∃ A : Addr, (if n = i + 1 then some (⟨b, 0, none⟩ : Addr) else some ⟨b, (i + 1) * 5, none⟩) = some A ∧ Hid (∀ t u, news[t]? = some u → w.drew.cell? (A.add t) = some u) := by
    by_cases h : n = i + 1
    · refine ⟨⟨b, 0, none⟩, by simp [h], fun t u hu => ?_⟩
      have := (hget t u hu).1
      omega
    · refine ⟨⟨b, (i + 1) * 5, none⟩, by simp [h], fun t u hu => ?_⟩
      rw [add_off]
      exact (hget t u hu).2.1
  have s1 := hid hlen
  have s2 : Hid (∀ u ∈ news, u.oneCell' = true) := fun u hu => by
    obtain ⟨j, hj⟩ := List.getElem?_of_mem hu
    exact (hget j u hj).2.2
  have s3 : Hid (∀ t, t < news.length → (w.drew.cell? ⟨b, 0 + i * 5 + t, none⟩).isSome = true ∧ w.drew.frozen? ⟨b, 0 + i * 5 + t, none⟩ = false) := fun t ht => by
    obtain ⟨u, h1, -⟩ := hc (0 + i * 5 + t) (by omega)
    exact ⟨by show (w.cell? _).isSome = true; rw [h1]; rfl, hf _⟩
  obtain ⟨W1, hW1⟩ : ∃ W1, W1 = w.drew.setCells b (0 + i * 5) news := ⟨_, rfl⟩
  have hcl : ∀ ty c, (Builtin.clear_ #[28] ty #[.slice (some ⟨b, (n - 1) * 5, none⟩) 1 c]).run Tryz.prog W1 = .ok (.tuple #[]) (W1.setCells b ((n - 1) * 5) [.int .i64 0, .int .i64 0, .string ⟨#[]⟩, .slice none 0 0, .slice none 0 0]) := fun ty c => by
    have hst := run_storeCells_cells (P := Tryz.prog) b ((n - 1) * 5) [.int .i64 0, .int .i64 0, .string ⟨#[]⟩, .slice none 0 0, .slice none 0 0] 0 W1 (fun j hj => by
      rw [hW1]
      refine World.isSome_setCells b _ _ _ _ ?_
      obtain ⟨u, h1, -⟩ := hc ((n - 1) * 5 + j) (by simp at hj; omega)
      show (w.cell? _).isSome = true
      rw [Nat.add_zero, h1]; rfl) (fun j hj => by rw [hW1, World.frozen?_setCells]; exact hf _) (by intro v hv; simp at hv; rcases hv with rfl | rfl | rfl | rfl | rfl <;> rfl)
    have hzc : (Builtin.zeroCells (.agg #[.int .i64 0, .int .i64 0, .string ⟨#[]⟩, .slice none 0 0, .slice none 0 0] : Value).cells 1).toList = [.int .i64 0, .int .i64 0, .string ⟨#[]⟩, .slice none 0 0, .slice none 0 0] := by kernel_rfl
    simp only [Nat.add_zero] at hst
    simp [Builtin.clear_, run_underlying Tryz.underlying28, Tryz.zeroValue31, hzc, hst]
  have X : Aside (W1 = w.drew.setCells b (0 + i * 5) news) := hW1
  have hW : Hid (W1 = w.drew.setCells b (0 + i * 5) news) := hW1
  have HG := hid hget
  have HC := hid hc
  have HF0 := hid hf
  have e1 : n - 1 = i + (n - 1 - i) := by omega
  have hlt2 : i + (n - 1 - i) + 1 = n := by omega
  clear hW1 hget hnews hc hf
  go_enter Tryz.func68, Tryz.ntmps68
  go_wp2_with fail
  refine wp_region_ends2 (S := fun _ => True) (by simp) (by kernel_rfl) (by kernel_rfl) (by kernel_rfl) (by kernel_rfl) (by kernel_rfl) (by kernel_rfl) ?_
  simp only [List.dropLast, List.getLast_cons_cons, List.getLast_singleton, List.length_cons, List.length_nil]
  refine take_h (i := 0) (v := .slice (some ⟨b, 0, none⟩) n n) rfl (by kernel_rfl) (by kernel_rfl) (by kernel_rfl) (fun _ _ _ h => h) (by rfl) ?_ trivial ?_
  · (intro X hX; go_simp)
  simp only [Act.put, List.setIfInBounds_toArray, List.set_cons_zero, List.set_cons_succ]
  refine take_h (i := 1) (v := .int .i64 (i : Int)) rfl (by kernel_rfl) (by kernel_rfl) (by kernel_rfl) (fun _ _ _ h => h) (by rfl) ?_ trivial ?_
  · (intro X hX; go_simp)
  simp only [Act.put, List.setIfInBounds_toArray, List.set_cons_zero, List.set_cons_succ]
  refine take_h (i := 2) (v := .slice (some ⟨b, 0, none⟩) i n) rfl (by kernel_rfl) (by kernel_rfl) (by kernel_rfl) (fun _ _ _ h => h) (by rfl) ?_ trivial ?_
  · (intro X hX; go_simp; try (intro hh; exact absurd hh (by omega)))
  simp only [Act.put, List.setIfInBounds_toArray, List.set_cons_zero, List.set_cons_succ]
  refine take_h (i := 3) (v := .slice (some ⟨b, 0, none⟩) n n) rfl (by kernel_rfl) (by kernel_rfl) (by kernel_rfl) (fun _ _ _ h => h) (by rfl) ?_ trivial ?_
  · (intro X hX; go_simp)
  simp only [Act.put, List.setIfInBounds_toArray, List.set_cons_zero, List.set_cons_succ]
  refine take_h (i := 4) (v := .int .i64 ((i : Int) + 1)) rfl (by kernel_rfl) (by kernel_rfl) (by kernel_rfl) (fun _ _ _ h => h) (by rfl) ?_ trivial ?_
  · (intro X hX; go_simp)
  simp only [Act.put, List.setIfInBounds_toArray, List.set_cons_zero, List.set_cons_succ]
  refine take_h (i := 5) (v := .slice (some A) (n - (i + 1)) (n - (i + 1))) rfl (by kernel_rfl) (by kernel_rfl) (by kernel_rfl) (fun _ _ _ h => h) (by rfl) ?_ trivial ?_
  · (intro X hX; go_simp; intro hh; exact absurd (hh (by omega)) (by omega))
  simp only [Act.put, List.setIfInBounds_toArray, List.set_cons_zero, List.set_cons_succ]
  refine step_h (i := 6) rfl (by kernel_rfl) ?_
  intro KK hKK
  refine step_append_room rfl (.tmp 22) (.tmp 25) 28 rfl 31 i0 5 Tryz.underlying28 hi0 hz1 b 0 i n (by rfl) A (n - (i + 1)) (n - (i + 1)) news (by rfl) (by rw [show n - (i + 1) = n - 1 - i by omega]; exact s1.out) hsrc.out s2.out (by omega) s3.out ?_
  rw [← hW.out, show i + (n - (i + 1)) = n - 1 by omega]
  refine hKK.out _ _ trivial (fun _ => ?_)
  clear hKK KK
  simp only [Act.put, List.setIfInBounds_toArray, List.set_cons_zero, List.set_cons_succ]
  refine wpAnyH_done (by kernel_rfl) ?_ _
  change Oper.wp _ _ _ _ _ _
  have hn1 : n - (n - 1) = 1 := by omega
  have hle : n - 1 ≤ n := by omega
  have hne : ¬ n = n - 1 := by omega
  have HCL := hid hcl
  clear hcl hW hA hsrc s1 s2 s3 e1 hlt2
  go_simp
  go_wp2_with fail
  rw [HCL.out]
  go_wp2_with fail
  go_ret
  refine ⟨rfl, ?_⟩
  rw [X.out]
  have q0 : ∀ j, j < news.length → (w.drew.cell? ⟨b, 0 + i * 5 + j, none⟩).isSome = true := fun j hj => by
    obtain ⟨u, h1, -⟩ := HC.out (0 + i * 5 + j) (by omega)
    show (w.cell? _).isSome = true
    rw [h1]; rfl
  refine ⟨fun j hj => ?_, fun j hj => ?_, fun x hx hne2 => ?_, fun B hB => ?_, ?_⟩
  · rw [World.cell?_setCells_out b _ _ _ _ (fun _ _ => .inl (by show j < _; omega)), World.cell?_setCells_out b _ _ _ _ (fun _ _ => .inl (by show j < _; omega))]; rfl
  · rw [World.cell?_setCells_out b _ _ _ _ (fun _ _ => .inl (by show i * 5 + j < _; omega)), show i * 5 + j = 0 + i * 5 + j by omega, World.cell?_setCells_in b news _ _ q0 j (by omega)]
    obtain ⟨-, h1, -⟩ := HG.out j _ (List.getElem?_eq_getElem (by omega))
    rw [show i * 5 + 5 + j = (i + 1) * 5 + j by omega, h1]
  · exact (cells_far _ _ _ _ _ hne2).trans (cells_far _ _ _ _ _ hne2)
  · exact cells_bel hB _ _ _ (cells_bel hB _ _ _ (Below.refl B w).drew)
  · rw [cells_size, cells_size]; rfl
set_option maxRecDepth 100000 in
set_option maxHeartbeats 2000000 in
theorem delP_any (b n i : Nat) (w : World) (hi : i < n) (hn : n ≤ 1000000) (hc : ∀ o, o < n * 6 → ∃ u, w.cell? ⟨b, o, none⟩ = some u ∧ u.oneCell' = true) (hf : ∀ o, w.frozen? ⟨b, o, none⟩ = false) :
    Calls Tryz.prog 69 #[.slice (some ⟨b, 0, none⟩) n n, .int .i64 (i : Int), .int .i64 ((i : Int) + 1)] w fun e w' => e = .returned (.slice (some ⟨b, 0, none⟩) (n - 1) n) ∧ Moved w w' b (i * 6) ((n - 1 - i) * 6) 6 := by
  obtain ⟨i0, hi0, hz0, hz1, hz2⟩ := info_parts Tryz.info34
  obtain ⟨news, hnews⟩ : ∃ news, news = (List.range ((n - 1 - i) * 6)).map fun j => (w.cell? ⟨b, (i + 1) * 6 + j, none⟩).getD undef := ⟨_, rfl⟩
  have hlen : news.length = (n - 1 - i) * 6 := by rw [hnews]; simp
  have hget : ∀ j u, news[j]? = some u → j < (n - 1 - i) * 6 ∧ w.cell? ⟨b, (i + 1) * 6 + j, none⟩ = some u ∧ u.oneCell' = true := by
    intro j u hu
    have hj : j < (n - 1 - i) * 6 := by rw [← hlen]; exact lt_of_some hu
    obtain ⟨u', h1, h2⟩ := hc ((i + 1) * 6 + j) (by omega)
    rw [hnews, List.getElem?_map, List.getElem?_range hj] at hu
    simp only [Option.map_some, h1, Option.getD_some, Option.some.injEq] at hu
    subst hu
    exact ⟨hj, h1, h2⟩
  obtain ⟨A, hA, hsrc⟩ : ∃ A : Addr, (if n = i + 1 then some (⟨b, 0, none⟩ : Addr) else some ⟨b, (i + 1) * 6, none⟩) = some A ∧ Hid (∀ t u, news[t]? = some u → w.drew.cell? (A.add t) = some u) := by
    by_cases h : n = i + 1
    · refine ⟨⟨b, 0, none⟩, by simp [h], fun t u hu => ?_⟩
      have := (hget t u hu).1
      omega
    · refine ⟨⟨b, (i + 1) * 6, none⟩, by simp [h], fun t u hu => ?_⟩
      rw [add_off]
      exact (hget t u hu).2.1
  have s1 := hid hlen
  have s2 : Hid (∀ u ∈ news, u.oneCell' = true) := fun u hu => by
    obtain ⟨j, hj⟩ := List.getElem?_of_mem hu
    exact (hget j u hj).2.2
  have s3 : Hid (∀ t, t < news.length → (w.drew.cell? ⟨b, 0 + i * 6 + t, none⟩).isSome = true ∧ w.drew.frozen? ⟨b, 0 + i * 6 + t, none⟩ = false) := fun t ht => by
    obtain ⟨u, h1, -⟩ := hc (0 + i * 6 + t) (by omega)
    exact ⟨by show (w.cell? _).isSome = true; rw [h1]; rfl, hf _⟩
  obtain ⟨W1, hW1⟩ : ∃ W1, W1 = w.drew.setCells b (0 + i * 6) news := ⟨_, rfl⟩
  have hcl : ∀ ty c, (Builtin.clear_ #[29] ty #[.slice (some ⟨b, (n - 1) * 6, none⟩) 1 c]).run Tryz.prog W1 = .ok (.tuple #[]) (W1.setCells b ((n - 1) * 6) [.string ⟨#[]⟩, .int .i64 0, .int .i64 0, .string ⟨#[]⟩, .slice none 0 0, .slice none 0 0]) := fun ty c => by
    have hst := run_storeCells_cells (P := Tryz.prog) b ((n - 1) * 6) [.string ⟨#[]⟩, .int .i64 0, .int .i64 0, .string ⟨#[]⟩, .slice none 0 0, .slice none 0 0] 0 W1 (fun j hj => by
      rw [hW1]
      refine World.isSome_setCells b _ _ _ _ ?_
      obtain ⟨u, h1, -⟩ := hc ((n - 1) * 6 + j) (by simp at hj; omega)
      show (w.cell? _).isSome = true
      rw [Nat.add_zero, h1]; rfl) (fun j hj => by rw [hW1, World.frozen?_setCells]; exact hf _) (by intro v hv; simp at hv; rcases hv with rfl | rfl | rfl | rfl | rfl | rfl <;> rfl)
    have hzc : (Builtin.zeroCells (.agg #[.string ⟨#[]⟩, .int .i64 0, .int .i64 0, .string ⟨#[]⟩, .slice none 0 0, .slice none 0 0] : Value).cells 1).toList = [.string ⟨#[]⟩, .int .i64 0, .int .i64 0, .string ⟨#[]⟩, .slice none 0 0, .slice none 0 0] := by kernel_rfl
    simp only [Nat.add_zero] at hst
    simp [Builtin.clear_, run_underlying Tryz.underlying29, Tryz.zeroValue69, hzc, hst]
  have X : Aside (W1 = w.drew.setCells b (0 + i * 6) news) := hW1
  have hW : Hid (W1 = w.drew.setCells b (0 + i * 6) news) := hW1
  have HG := hid hget
  have HC := hid hc
  have HF0 := hid hf
  have e1 : n - 1 = i + (n - 1 - i) := by omega
  have hlt2 : i + (n - 1 - i) + 1 = n := by omega
  clear hW1 hget hnews hc hf
  go_enter Tryz.func69, Tryz.ntmps69
  go_wp2_with fail
  refine wp_region_ends2 (S := fun _ => True) (by simp) (by kernel_rfl) (by kernel_rfl) (by kernel_rfl) (by kernel_rfl) (by kernel_rfl) (by kernel_rfl) ?_
  simp only [List.dropLast, List.getLast_cons_cons, List.getLast_singleton, List.length_cons, List.length_nil]
  refine take_h (i := 0) (v := .slice (some ⟨b, 0, none⟩) n n) rfl (by kernel_rfl) (by kernel_rfl) (by kernel_rfl) (fun _ _ _ h => h) (by rfl) ?_ trivial ?_
  · (intro X hX; go_simp)
  simp only [Act.put, List.setIfInBounds_toArray, List.set_cons_zero, List.set_cons_succ]
  refine take_h (i := 1) (v := .int .i64 (i : Int)) rfl (by kernel_rfl) (by kernel_rfl) (by kernel_rfl) (fun _ _ _ h => h) (by rfl) ?_ trivial ?_
  · (intro X hX; go_simp)
  simp only [Act.put, List.setIfInBounds_toArray, List.set_cons_zero, List.set_cons_succ]
  refine take_h (i := 2) (v := .slice (some ⟨b, 0, none⟩) i n) rfl (by kernel_rfl) (by kernel_rfl) (by kernel_rfl) (fun _ _ _ h => h) (by rfl) ?_ trivial ?_
  · (intro X hX; go_simp; try (intro hh; exact absurd hh (by omega)))
  simp only [Act.put, List.setIfInBounds_toArray, List.set_cons_zero, List.set_cons_succ]
  refine take_h (i := 3) (v := .slice (some ⟨b, 0, none⟩) n n) rfl (by kernel_rfl) (by kernel_rfl) (by kernel_rfl) (fun _ _ _ h => h) (by rfl) ?_ trivial ?_
  · (intro X hX; go_simp)
  simp only [Act.put, List.setIfInBounds_toArray, List.set_cons_zero, List.set_cons_succ]
  refine take_h (i := 4) (v := .int .i64 ((i : Int) + 1)) rfl (by kernel_rfl) (by kernel_rfl) (by kernel_rfl) (fun _ _ _ h => h) (by rfl) ?_ trivial ?_
  · (intro X hX; go_simp)
  simp only [Act.put, List.setIfInBounds_toArray, List.set_cons_zero, List.set_cons_succ]
  refine take_h (i := 5) (v := .slice (some A) (n - (i + 1)) (n - (i + 1))) rfl (by kernel_rfl) (by kernel_rfl) (by kernel_rfl) (fun _ _ _ h => h) (by rfl) ?_ trivial ?_
  · (intro X hX; go_simp; intro hh; exact absurd (hh (by omega)) (by omega))
  simp only [Act.put, List.setIfInBounds_toArray, List.set_cons_zero, List.set_cons_succ]
  refine step_h (i := 6) rfl (by kernel_rfl) ?_
  intro KK hKK
  refine step_append_room rfl (.tmp 22) (.tmp 25) 29 rfl 69 i0 6 Tryz.underlying29 hi0 hz1 b 0 i n (by rfl) A (n - (i + 1)) (n - (i + 1)) news (by rfl) (by rw [show n - (i + 1) = n - 1 - i by omega]; exact s1.out) hsrc.out s2.out (by omega) s3.out ?_
  rw [← hW.out, show i + (n - (i + 1)) = n - 1 by omega]
  refine hKK.out _ _ trivial (fun _ => ?_)
  clear hKK KK
  simp only [Act.put, List.setIfInBounds_toArray, List.set_cons_zero, List.set_cons_succ]
  refine wpAnyH_done (by kernel_rfl) ?_ _
  change Oper.wp _ _ _ _ _ _
  have hn1 : n - (n - 1) = 1 := by omega
  have hle : n - 1 ≤ n := by omega
  have hne : ¬ n = n - 1 := by omega
  have HCL := hid hcl
  clear hcl hW hA hsrc s1 s2 s3 e1 hlt2
  go_simp
  go_wp2_with fail
  rw [HCL.out]
  go_wp2_with fail
  go_ret
  refine ⟨rfl, ?_⟩
  rw [X.out]
  have q0 : ∀ j, j < news.length → (w.drew.cell? ⟨b, 0 + i * 6 + j, none⟩).isSome = true := fun j hj => by
    obtain ⟨u, h1, -⟩ := HC.out (0 + i * 6 + j) (by omega)
    show (w.cell? _).isSome = true
    rw [h1]; rfl
  refine ⟨fun j hj => ?_, fun j hj => ?_, fun x hx hne2 => ?_, fun B hB => ?_, ?_⟩
  · rw [World.cell?_setCells_out b _ _ _ _ (fun _ _ => .inl (by show j < _; omega)), World.cell?_setCells_out b _ _ _ _ (fun _ _ => .inl (by show j < _; omega))]; rfl
  · rw [World.cell?_setCells_out b _ _ _ _ (fun _ _ => .inl (by show i * 6 + j < _; omega)), show i * 6 + j = 0 + i * 6 + j by omega, World.cell?_setCells_in b news _ _ q0 j (by omega)]
    obtain ⟨-, h1, -⟩ := HG.out j _ (List.getElem?_eq_getElem (by omega))
    rw [show i * 6 + 6 + j = (i + 1) * 6 + j by omega, h1]
  · exact (cells_far _ _ _ _ _ hne2).trans (cells_far _ _ _ _ _ hne2)
  · exact cells_bel hB _ _ _ (cells_bel hB _ _ _ (Below.refl B w).drew)
  · rw [cells_size, cells_size]; rfl
end Go.Proofs.YtjcejjejlekelaaGreatDoor
namespace Go.Proofs.YtjcejjejlekelaaGreatDoor
open Go.RowKit

theorem LF.ls {w : World} {lo hi : Nat} {L : List VT} {x : Value} (h : LF w lo hi L x) : LS w (fun k => lo ≤ k ∧ k < hi) L x := by
  obtain ⟨b, l, f, g, h1, h2, h3, h4, h5⟩ := h
  refine ⟨⟨b, 0, none⟩, f, g, h1.of, fun h0 => ?_, h4, fun i t ht => ?_⟩
  · have e1 := h2 h0; have e2 := h3 0 _ (Nat.zero_le _) (Nat.le_refl L.length)
    show lo ≤ b ∧ b < hi; omega
  · have hi := lt_of_some ht
    have e1 := h2 (by omega); have e2 := h3 0 i (Nat.zero_le _) (by omega); have e3 := h3 (i + 1) _ hi (Nat.le_refl _)
    exact (h5 i t ht).hs.onto (fun _ _ => rfl) (fun k hk => by omega)
theorem MF.ms {w : World} {lo hi : Nat} {K : List ByteArray} {V : List VT} {y : Value} (h : MF w lo hi K V y) : MS w (fun k => lo ≤ k ∧ k < hi) K V y := by
  obtain ⟨b, r, p, q, h1, hK, h2, h3, hc, h4, h5⟩ := h
  refine ⟨⟨b, 0, none⟩, p, q, h1.of, hK, fun h0 => ?_, hc, h4, fun i t ht => ?_⟩
  · have e1 := h2 h0; have e2 := h3 0 _ (Nat.zero_le _) (Nat.le_refl V.length)
    show lo ≤ b ∧ b < hi; omega
  · have hi := lt_of_some ht
    have e1 := h2 (by omega); have e2 := h3 0 i (Nat.zero_le _) (by omega); have e3 := h3 (i + 1) _ hi (Nat.le_refl _)
    exact (h5 i t ht).hs.onto (fun _ _ => rfl) (fun k hk => by omega)
theorem MS.onto {w w' : World} {S S' : Nat → Prop} {K : List ByteArray} {V : List VT} {y : Value} (h : MS w S K V y) (hb : ∀ k, S k → w'.heap[k]? = w.heap[k]?) (hS : ∀ k, S k → S' k) : MS w' S' K V y := by
  obtain ⟨b, p, q, h1, hK, h2, hc, h3, h4⟩ := h
  refine ⟨b, p, q, h1, hK, fun h => hS _ (h2 h), fun i u h => ⟨(World.cell?_of_block (w := w) ?_).trans (hc i u h).1, (hc i u h).2⟩, fun i t h => (h3 i t h).eqs ?_, fun i t h => (h4 i t h).onto hb hS⟩
  · rw [addr_block]; exact hb _ (h2 (by have := lt_of_some h; omega))
  · rw [show (nx (b.add (i * 6))).block = (b.add (i * 6)).block from rfl, addr_block]; exact hb _ (h2 (by have := lt_of_some h; omega))
theorem erase_at {α : Type} {L : List α} {i j : Nat} {t : α} (h : (L.eraseIdx i)[j]? = some t) : (j < i ∧ L[j]? = some t) ∨ (i ≤ j ∧ L[j + 1]? = some t) := by
  rw [List.getElem?_eraseIdx] at h
  by_cases hj : j < i
  · rw [if_pos hj] at h; exact .inl ⟨hj, h⟩
  · rw [if_neg hj] at h; exact .inr ⟨by omega, h⟩
/-- a list without one of its parts -/
theorem ls_erase {w w' : World} {lo hi b i : Nat} {L : List VT} {c : Nat} {S : Nat → Prop} (h : LF w lo hi L (.slice (some ⟨b, 0, none⟩) L.length c)) (hil : i < L.length) (hS : ∀ k, lo ≤ k → k < hi → S k)
    (m1 : ∀ j, j < i * 5 → w'.cell? ⟨b, j, none⟩ = w.cell? ⟨b, j, none⟩) (m2 : ∀ j, j < (L.length - 1 - i) * 5 → w'.cell? ⟨b, i * 5 + j, none⟩ = w.cell? ⟨b, i * 5 + 5 + j, none⟩)
    (hfar : ∀ k, lo ≤ k → k < hi → k ≠ b → w'.heap[k]? = w.heap[k]?) : LS w' S (L.eraseIdx i) (.slice (some ⟨b, 0, none⟩) (L.length - 1) L.length) := by
  obtain ⟨b', l, f, g, ⟨o, hx, hmax, ho⟩, h2, h3, h4, h5⟩ := h
  obtain ⟨ho, -⟩ := ho (by omega)
  subst ho
  injection hx with e1 e2 e3
  injection e1 with e1
  injection e1 with e1
  subst e1
  have g0 := h2 (by omega)
  have g1 := h3 0 _ (Nat.zero_le _) (Nat.le_refl L.length)
  have sub : ∀ j t, L[j]? = some t → HS w' S t (f j) (g j) := fun j t ht => by
    have hj := lt_of_some ht
    have e2 := h3 0 j (Nat.zero_le _) (by omega); have e3 := h3 (j + 1) _ hj (Nat.le_refl _)
    exact ((h5 j t ht).onto (w' := w') (fun k k1 k2 => hfar k (by omega) (by omega) (by omega))).hs.onto (fun _ _ => rfl) (fun k hk => hS k (by omega) (by omega))
  refine ⟨⟨b, 0, none⟩, fun j => if j < i then f j else f (j + 1), fun j => if j < i then g j else g (j + 1), ⟨_, _, by rw [List.length_eraseIdx, if_pos hil], by rw [List.length_eraseIdx, if_pos hil]; omega, hmax, fun _ => rfl⟩, fun _ => hS b (by omega) (by omega), fun j t ht => ?_, fun j t ht => ?_⟩
  · rw [add_at]
    rcases erase_at ht with ⟨hj, ht⟩ | ⟨hj, ht⟩
    · simp only [if_pos hj]
      have h9 := h4 j t ht
      rw [add_at] at h9
      exact node_cells h9 (fun o k1 k2 => m1 o (by omega))
    · have hjl := lt_of_some ht
      simp only [if_neg (Nat.not_lt.2 hj)]
      have h9 := h4 (j + 1) t ht
      rw [add_at] at h9
      obtain ⟨d0, d1, d2, d3, d4⟩ := h9
      have mv : ∀ c, c < 5 → w'.cell? ⟨b, j * 5 + c, none⟩ = w.cell? ⟨b, (j + 1) * 5 + c, none⟩ := fun c hc => by
        have := m2 (j * 5 + c - i * 5) (by omega)
        rw [show i * 5 + (j * 5 + c - i * 5) = j * 5 + c by omega, show i * 5 + 5 + (j * 5 + c - i * 5) = (j + 1) * 5 + c by omega] at this
        exact this
      exact ⟨(mv 0 (by decide)).trans d0, (mv 1 (by decide)).trans d1, (mv 2 (by decide)).trans d2, (mv 3 (by decide)).trans d3, (mv 4 (by decide)).trans d4⟩
  · rcases erase_at ht with ⟨hj, ht⟩ | ⟨hj, ht⟩
    · simp only [if_pos hj]; exact sub j t ht
    · simp only [if_neg (Nat.not_lt.2 hj)]; exact sub (j + 1) t ht
/-- pairs without one of them -/
theorem ms_erase {w w' : World} {lo hi b i : Nat} {K : List ByteArray} {V : List VT} {c : Nat} {S : Nat → Prop} (h : MF w lo hi K V (.slice (some ⟨b, 0, none⟩) V.length c)) (hil : i < V.length) (hS : ∀ k, lo ≤ k → k < hi → S k)
    (m1 : ∀ j, j < i * 6 → w'.cell? ⟨b, j, none⟩ = w.cell? ⟨b, j, none⟩) (m2 : ∀ j, j < (V.length - 1 - i) * 6 → w'.cell? ⟨b, i * 6 + j, none⟩ = w.cell? ⟨b, i * 6 + 6 + j, none⟩)
    (hfar : ∀ k, lo ≤ k → k < hi → k ≠ b → w'.heap[k]? = w.heap[k]?) : MS w' S (K.eraseIdx i) (V.eraseIdx i) (.slice (some ⟨b, 0, none⟩) (V.length - 1) V.length) := by
  obtain ⟨b', l, f, g, ⟨o, hx, hmax, ho⟩, hK, h2, h3, hc, h4, h5⟩ := h
  obtain ⟨ho, -⟩ := ho (by omega)
  subst ho
  injection hx with e1 e2 e3
  injection e1 with e1
  injection e1 with e1
  subst e1
  have g0 := h2 (by omega)
  have g1 := h3 0 _ (Nat.zero_le _) (Nat.le_refl V.length)
  have mv : ∀ j c, i ≤ j → j + 1 < V.length → c < 6 → w'.cell? ⟨b, j * 6 + c, none⟩ = w.cell? ⟨b, (j + 1) * 6 + c, none⟩ := fun j c hj hjl hc => by
    have := m2 (j * 6 + c - i * 6) (by omega)
    rw [show i * 6 + (j * 6 + c - i * 6) = j * 6 + c by omega, show i * 6 + 6 + (j * 6 + c - i * 6) = (j + 1) * 6 + c by omega] at this
    exact this
  have nxa : ∀ j, nx (Addr.add ⟨b, 0, none⟩ (j * 6)) = ⟨b, j * 6 + 1, none⟩ := fun j => by rw [add_at]; rfl
  have sub : ∀ j t, V[j]? = some t → HS w' S t (f j) (g j) := fun j t ht => by
    have hj := lt_of_some ht
    have e2 := h3 0 j (Nat.zero_le _) (by omega); have e3 := h3 (j + 1) _ hj (Nat.le_refl _)
    exact ((h5 j t ht).onto (w' := w') (fun k k1 k2 => hfar k (by omega) (by omega) (by omega))).hs.onto (fun _ _ => rfl) (fun k hk => hS k (by omega) (by omega))
  refine ⟨⟨b, 0, none⟩, fun j => if j < i then f j else f (j + 1), fun j => if j < i then g j else g (j + 1), ⟨_, _, by rw [List.length_eraseIdx, if_pos hil], by rw [List.length_eraseIdx, if_pos hil]; omega, hmax, fun _ => rfl⟩, by rw [List.length_eraseIdx, List.length_eraseIdx, hK], fun _ => hS b (by omega) (by omega), fun j u hu => ?_, fun j t ht => ?_, fun j t ht => ?_⟩
  · rw [add_at]
    rcases erase_at hu with ⟨hj, hu⟩ | ⟨hj, hu⟩
    · have h9 := hc j u hu
      rw [add_at] at h9
      exact ⟨(m1 _ (by omega)).trans h9.1, h9.2⟩
    · have hjl := lt_of_some hu
      have h9 := hc (j + 1) u hu
      rw [add_at] at h9
      exact ⟨(mv j 0 hj (by omega) (by decide)).trans h9.1, h9.2⟩
  · rw [nxa]
    rcases erase_at ht with ⟨hj, ht⟩ | ⟨hj, ht⟩
    · simp only [if_pos hj]
      have h9 := h4 j t ht
      rw [nxa] at h9
      exact node_cells h9 (fun o k1 k2 => m1 o (by omega))
    · have hjl := lt_of_some ht
      simp only [if_neg (Nat.not_lt.2 hj)]
      have h9 := h4 (j + 1) t ht
      rw [nxa] at h9
      obtain ⟨d0, d1, d2, d3, d4⟩ := h9
      exact ⟨(mv j 1 hj hjl (by decide)).trans d0, (mv j 2 hj hjl (by decide)).trans d1, (mv j 3 hj hjl (by decide)).trans d2, (mv j 4 hj hjl (by decide)).trans d3, (mv j 5 hj hjl (by decide)).trans d4⟩
  · rcases erase_at ht with ⟨hj, ht⟩ | ⟨hj, ht⟩
    · simp only [if_pos hj]; exact sub j t ht
    · simp only [if_neg (Nat.not_lt.2 hj)]; exact sub (j + 1) t ht
end Go.Proofs.YtjcejjejlekelaaGreatDoor
namespace Go.Proofs.YtjcejjejlekelaaGreatDoor
open Go.RowKit

/-- a node without one of its parts -/
def delT (T : VT) (s : PStep) (i : Nat) : VT := match T with
  | .mk k n st L K V => if s.place = true then .mk k n st (L.eraseIdx i) K V else .mk k n st L (K.eraseIdx i) (V.eraseIdx i)
theorem addr_is {a : Addr} (h : a.spot = none) : a = ⟨a.block, a.off, none⟩ := by cases a; simp at h; simp [h]
/-- one cell of a node written -/
theorem nd_set3 {w : World} {a : Addr} {T : VT} {x y : Value} (h : Node w a T x y) (hs : a.spot = none) (T' : VT) (hT : T'.kd = T.kd ∧ T'.nm = T.nm ∧ T'.st = T.st) (u : Value) : Node (w.setCell ⟨a.block, a.off + 3, none⟩ u) a T' u y := by
  obtain ⟨d0, d1, d2, d3, d4⟩ := h
  obtain ⟨e0, e1, e2⟩ := hT
  rw [addr_is hs] at d0
  refine ⟨?_, ?_, ?_, ?_, ?_⟩
  · rw [addr_is hs, e0]
    show World.cell? _ ⟨a.block, a.off, none⟩ = _
    rw [set_other _ _ _ _ _ _ (.inr (by show a.off + 3 ≠ a.off; omega))]; exact d0
  · rw [set_other _ _ _ _ _ _ (.inr (by omega)), e1]; exact d1
  · rw [set_other _ _ _ _ _ _ (.inr (by omega)), e2]; exact d2
  · exact World.cell?_setCell_same _ _ _ d3
  · rw [set_other _ _ _ _ _ _ (.inr (by omega))]; exact d4
theorem nd_set4 {w : World} {a : Addr} {T : VT} {x y : Value} (h : Node w a T x y) (hs : a.spot = none) (T' : VT) (hT : T'.kd = T.kd ∧ T'.nm = T.nm ∧ T'.st = T.st) (u : Value) : Node (w.setCell ⟨a.block, a.off + 4, none⟩ u) a T' x u := by
  obtain ⟨d0, d1, d2, d3, d4⟩ := h
  obtain ⟨e0, e1, e2⟩ := hT
  rw [addr_is hs] at d0
  refine ⟨?_, ?_, ?_, ?_, ?_⟩
  · rw [addr_is hs, e0]
    show World.cell? _ ⟨a.block, a.off, none⟩ = _
    rw [set_other _ _ _ _ _ _ (.inr (by show a.off + 4 ≠ a.off; omega))]; exact d0
  · rw [set_other _ _ _ _ _ _ (.inr (by omega)), e1]; exact d1
  · rw [set_other _ _ _ _ _ _ (.inr (by omega)), e2]; exact d2
  · rw [set_other _ _ _ _ _ _ (.inr (by omega))]; exact d3
  · exact World.cell?_setCell_same _ _ _ d4
theorem Hole.ablock {w : World} {lo hi : Nat} {B : Addr} {T0 : VT} {p : List PStep} {a : Addr} {U : VT} {x y : Value} {la ha : Nat} (h : Hole w lo hi B T0 p a U x y la ha) (hlo : lo ≤ B.block) (hBs : B.block < w.heap.size) (hhi : hi ≤ w.heap.size) : lo ≤ a.block ∧ a.block < w.heap.size := by
  rcases h.at_ with e | e
  · rw [e]; exact ⟨hlo, hBs⟩
  · exact ⟨e.1, by omega⟩
/-- a list's part taken away -/
theorem Hole.eraseL {w w1 w2 : World} {lo hi : Nat} {B : Addr} {T0 : VT} {p : List PStep} {a : Addr} {k n : Int} {st : ByteArray} {L : List VT} {K : List ByteArray} {V : List VT} {y : Value} {la ha b c i : Nat} (h : Hole w lo hi B T0 p a (.mk k n st L K V) (.slice (some ⟨b, 0, none⟩) L.length c) y la ha) (hB : ¬ (lo ≤ B.block ∧ B.block < hi)) (hlo : lo ≤ B.block) (hBs : B.block < w.heap.size) (hhi : hi ≤ w.heap.size)
    (hil : i < L.length) (hb1 : Below w.heap.size w w1) (hmv : Moved w1 w2 b (i * 5) ((L.length - 1 - i) * 5) 5) :
    (∃ X Y, Node (w2.setCell ⟨a.block, a.off + 3, none⟩ (.slice (some ⟨b, 0, none⟩) (L.length - 1) L.length)) B (replP T0 p (.mk k n st (L.eraseIdx i) K V)) X Y ∧ HS (w2.setCell ⟨a.block, a.off + 3, none⟩ (.slice (some ⟨b, 0, none⟩) (L.length - 1) L.length)) (fun k => lo ≤ k ∧ k < w2.heap.size) (replP T0 p (.mk k n st (L.eraseIdx i) K V)) X Y) ∧ Below lo w (w2.setCell ⟨a.block, a.off + 3, none⟩ (.slice (some ⟨b, 0, none⟩) (L.length - 1) L.length)) := by
  have hab := h.ablock hlo hBs hhi
  have hw := h.tree.hv.wfs
  obtain ⟨m, hm1, hm2, hLF, hMF⟩ := h.tree.lists
  simp only [VT.ls, VT.ks, VT.vs] at hLF hMF
  have hin := h.inn
  have hout := h.out
  have hbb : la ≤ b ∧ b < m := by
    obtain ⟨b', l, f, g, ⟨o, hx, hmax, ho⟩, h2, h3, -⟩ := hLF
    obtain ⟨ho, -⟩ := ho (by omega)
    subst ho
    injection hx with e1
    injection e1 with e1
    injection e1 with e1
    subst e1
    have := h2 (by omega); have := h3 0 _ (Nat.zero_le _) (Nat.le_refl L.length); omega
  have hs1 := hb1.size
  have hs2 := hmv.size
  have hane : a.block ≠ b := fun e => hout (by omega)
  have far : ∀ x, x < w.heap.size → x ≠ b → x ≠ a.block → (w2.setCell ⟨a.block, a.off + 3, none⟩ (.slice (some ⟨b, 0, none⟩) (L.length - 1) L.length)).heap[x]? = w.heap[x]? := fun x h1 h2 h3 => by
    exact (Below.heap_setCell _ _ _ _ (show x ≠ (⟨a.block, a.off + 3, none⟩ : Addr).block from h3)).trans ((hmv.far x (by omega) h2).trans (hb1.block x h1))
  have incell : ∀ o, w2.cell? ⟨a.block, o, none⟩ = w.cell? ⟨a.block, o, none⟩ := fun o => by
    refine World.cell?_of_block (w := w) ?_
    show w2.heap[a.block]? = w.heap[a.block]?
    rw [hmv.far _ (by omega) hane, hb1.block _ hab.2]
  have rowc : ∀ o, w1.cell? ⟨b, o, none⟩ = w.cell? ⟨b, o, none⟩ := fun o => hb1.cell (show b < w.heap.size by omega)
  have rows : ∀ o, (w2.setCell ⟨a.block, a.off + 3, none⟩ (.slice (some ⟨b, 0, none⟩) (L.length - 1) L.length)).cell? ⟨b, o, none⟩ = w2.cell? ⟨b, o, none⟩ := fun o => set_other _ _ _ _ _ _ (.inl hane)
  refine ⟨h.back _ (fun k => lo ≤ k ∧ k < w2.heap.size) (.mk k n st (L.eraseIdx i) K V) (.slice (some ⟨b, 0, none⟩) (L.length - 1) L.length) y ⟨fun k h1 h2 h3 h4 => far k (by omega) (by omega) h3, fun hne => far _ hBs (fun e => hB (by omega)) hne, fun o ho => ?_⟩ (fun k h1 h2 => ⟨h1, by omega⟩) ?_ ?_, ?_⟩
  · rw [set_other _ _ _ _ _ _ (.inr (by omega)), incell]
  · have hnode : Node w2 a (.mk k n st L K V) (.slice (some ⟨b, 0, none⟩) L.length c) y := h.node.eqs (by rw [hmv.far _ (by omega) hane, hb1.block _ hab.2])
    exact nd_set3 hnode h.plain _ ⟨rfl, rfl, rfl⟩ _
  · refine hs_of (T := .mk k n st (L.eraseIdx i) K V) hw (show LS _ _ (L.eraseIdx i) _ from ?_) (show MS _ _ K V y from ?_)
    · exact ls_erase hLF hil (fun k h1 h2 => ⟨by omega, by omega⟩) (fun j hj => by rw [rows, hmv.below j hj, rowc]) (fun j hj => by rw [rows, hmv.moved j hj, rowc]) (fun k h1 h2 h3 => far k (by omega) h3 (fun e => hout (by omega)))
    · exact hMF.ms.onto (fun k hk => far k (by omega) (by omega) (fun e => hout (by omega))) (fun k hk => ⟨by omega, by omega⟩)
  · exact ((hb1.mono (by omega)).trans (hmv.bel lo (by omega))).setCell (p := ⟨a.block, a.off + 3, none⟩) hab.1 _
/-- a pair taken away -/
theorem Hole.eraseM {w w1 w2 : World} {lo hi : Nat} {B : Addr} {T0 : VT} {p : List PStep} {a : Addr} {k n : Int} {st : ByteArray} {L : List VT} {K : List ByteArray} {V : List VT} {x : Value} {la ha b c i : Nat} (h : Hole w lo hi B T0 p a (.mk k n st L K V) x (.slice (some ⟨b, 0, none⟩) V.length c) la ha) (hB : ¬ (lo ≤ B.block ∧ B.block < hi)) (hlo : lo ≤ B.block) (hBs : B.block < w.heap.size) (hhi : hi ≤ w.heap.size)
    (hil : i < V.length) (hb1 : Below w.heap.size w w1) (hmv : Moved w1 w2 b (i * 6) ((V.length - 1 - i) * 6) 6) :
    (∃ X Y, Node (w2.setCell ⟨a.block, a.off + 4, none⟩ (.slice (some ⟨b, 0, none⟩) (V.length - 1) V.length)) B (replP T0 p (.mk k n st L (K.eraseIdx i) (V.eraseIdx i))) X Y ∧ HS (w2.setCell ⟨a.block, a.off + 4, none⟩ (.slice (some ⟨b, 0, none⟩) (V.length - 1) V.length)) (fun k => lo ≤ k ∧ k < w2.heap.size) (replP T0 p (.mk k n st L (K.eraseIdx i) (V.eraseIdx i))) X Y) ∧ Below lo w (w2.setCell ⟨a.block, a.off + 4, none⟩ (.slice (some ⟨b, 0, none⟩) (V.length - 1) V.length)) := by
  have hab := h.ablock hlo hBs hhi
  have hw := h.tree.hv.wfs
  obtain ⟨m, hm1, hm2, hLF, hMF⟩ := h.tree.lists
  simp only [VT.ls, VT.ks, VT.vs] at hLF hMF
  have hin := h.inn
  have hout := h.out
  have hbb : m ≤ b ∧ b < ha := by
    obtain ⟨b', l, f, g, ⟨o, hx, hmax, ho⟩, -, h2, h3, -⟩ := hMF
    obtain ⟨ho, -⟩ := ho (by omega)
    subst ho
    injection hx with e1
    injection e1 with e1
    injection e1 with e1
    subst e1
    have := h2 (by omega); have := h3 0 _ (Nat.zero_le _) (Nat.le_refl V.length); omega
  have hs1 := hb1.size
  have hs2 := hmv.size
  have hane : a.block ≠ b := fun e => hout (by omega)
  have far : ∀ x, x < w.heap.size → x ≠ b → x ≠ a.block → (w2.setCell ⟨a.block, a.off + 4, none⟩ (.slice (some ⟨b, 0, none⟩) (V.length - 1) V.length)).heap[x]? = w.heap[x]? := fun x h1 h2 h3 => by
    exact (Below.heap_setCell _ _ _ _ (show x ≠ (⟨a.block, a.off + 4, none⟩ : Addr).block from h3)).trans ((hmv.far x (by omega) h2).trans (hb1.block x h1))
  have incell : ∀ o, w2.cell? ⟨a.block, o, none⟩ = w.cell? ⟨a.block, o, none⟩ := fun o => by
    refine World.cell?_of_block (w := w) ?_
    show w2.heap[a.block]? = w.heap[a.block]?
    rw [hmv.far _ (by omega) hane, hb1.block _ hab.2]
  have rowc : ∀ o, w1.cell? ⟨b, o, none⟩ = w.cell? ⟨b, o, none⟩ := fun o => hb1.cell (show b < w.heap.size by omega)
  have rows : ∀ o, (w2.setCell ⟨a.block, a.off + 4, none⟩ (.slice (some ⟨b, 0, none⟩) (V.length - 1) V.length)).cell? ⟨b, o, none⟩ = w2.cell? ⟨b, o, none⟩ := fun o => set_other _ _ _ _ _ _ (.inl hane)
  refine ⟨h.back _ (fun k => lo ≤ k ∧ k < w2.heap.size) (.mk k n st L (K.eraseIdx i) (V.eraseIdx i)) x (.slice (some ⟨b, 0, none⟩) (V.length - 1) V.length) ⟨fun k h1 h2 h3 h4 => far k (by omega) (by omega) h3, fun hne => far _ hBs (fun e => hB (by omega)) hne, fun o ho => ?_⟩ (fun k h1 h2 => ⟨h1, by omega⟩) ?_ ?_, ?_⟩
  · rw [set_other _ _ _ _ _ _ (.inr (by omega)), incell]
  · have hnode : Node w2 a (.mk k n st L K V) x (.slice (some ⟨b, 0, none⟩) V.length c) := h.node.eqs (by rw [hmv.far _ (by omega) hane, hb1.block _ hab.2])
    exact nd_set4 hnode h.plain _ ⟨rfl, rfl, rfl⟩ _
  · refine hs_of (T := .mk k n st L (K.eraseIdx i) (V.eraseIdx i)) hw (show LS _ _ L x from ?_) (show MS _ _ (K.eraseIdx i) (V.eraseIdx i) _ from ?_)
    · exact hLF.ls.onto (fun k hk => far k (by omega) (by omega) (fun e => hout (by omega))) (fun k hk => ⟨by omega, by omega⟩)
    · exact ms_erase hMF hil (fun k h1 h2 => ⟨by omega, by omega⟩) (fun j hj => by rw [rows, hmv.below j hj, rowc]) (fun j hj => by rw [rows, hmv.moved j hj, rowc]) (fun k h1 h2 h3 => far k (by omega) h3 (fun e => hout (by omega)))
  · exact ((hb1.mono (by omega)).trans (hmv.bel lo (by omega))).setCell (p := ⟨a.block, a.off + 4, none⟩) hab.1 _
end Go.Proofs.YtjcejjejlekelaaGreatDoor
namespace Go.Proofs.YtjcejjejlekelaaGreatDoor
open Go.RowKit

theorem row_of5 {w : World} {lo hi b c : Nat} {L : List VT} (h : LF w lo hi L (.slice (some ⟨b, 0, none⟩) L.length c)) (h0 : 0 < L.length) : c = L.length ∧ (∀ o, o < L.length * 5 → ∃ u, w.cell? ⟨b, o, none⟩ = some u ∧ u.oneCell' = true) ∧ (∀ o, w.frozen? ⟨b, o, none⟩ = false) ∧ b < w.heap.size := by
  obtain ⟨b', l, f, g, ⟨o, hx, hmax, ho⟩, -, -, h4, h5⟩ := h
  obtain ⟨ho, cc, hcc, -⟩ := ho h0
  subst ho
  injection hx with e1 e2 e3
  injection e1 with e1
  injection e1 with e1
  subst e1
  refine ⟨e3, fun o ho => ?_, fun o => by simp [World.frozen?, hcc], (Array.getElem?_eq_some_iff.1 hcc).1⟩
  obtain ⟨t, ht⟩ : ∃ t, L[o / 5]? = some t := ⟨L[o / 5]'(by omega), List.getElem?_eq_getElem _⟩
  have hn := h4 _ t ht
  rw [add_at] at hn
  obtain ⟨o1, n1, c1, o2, n2, c2, hf, hg⟩ := hv_slices (h5 _ t ht).hv
  rw [hf, hg] at hn
  obtain ⟨d0, d1, d2, d3, d4⟩ := hn
  have hcase : o % 5 = 0 ∨ o % 5 = 1 ∨ o % 5 = 2 ∨ o % 5 = 3 ∨ o % 5 = 4 := by omega
  have heq : o = o / 5 * 5 + o % 5 := by omega
  rcases hcase with e | e | e | e | e <;> rw [e] at heq <;> rw [heq]
  · exact ⟨_, d0, rfl⟩
  · exact ⟨_, d1, rfl⟩
  · exact ⟨_, d2, rfl⟩
  · exact ⟨_, d3, rfl⟩
  · exact ⟨_, d4, rfl⟩
theorem row_of6 {w : World} {lo hi b c : Nat} {K : List ByteArray} {V : List VT} (h : MF w lo hi K V (.slice (some ⟨b, 0, none⟩) V.length c)) (h0 : 0 < V.length) : c = V.length ∧ (∀ o, o < V.length * 6 → ∃ u, w.cell? ⟨b, o, none⟩ = some u ∧ u.oneCell' = true) ∧ (∀ o, w.frozen? ⟨b, o, none⟩ = false) ∧ b < w.heap.size := by
  obtain ⟨b', l, f, g, ⟨o, hx, hmax, ho⟩, hK, -, -, hc, h4, h5⟩ := h
  obtain ⟨ho, cc, hcc, -⟩ := ho h0
  subst ho
  injection hx with e1 e2 e3
  injection e1 with e1
  injection e1 with e1
  subst e1
  refine ⟨e3, fun o ho => ?_, fun o => by simp [World.frozen?, hcc], (Array.getElem?_eq_some_iff.1 hcc).1⟩
  obtain ⟨t, ht⟩ : ∃ t, V[o / 6]? = some t := ⟨V[o / 6]'(by omega), List.getElem?_eq_getElem _⟩
  obtain ⟨k, hk⟩ : ∃ k, K[o / 6]? = some k := ⟨K[o / 6]'(by omega), List.getElem?_eq_getElem _⟩
  have hn := h4 _ t ht
  have hk' := (hc _ k hk).1
  rw [add_at] at hn hk'
  simp only [nx] at hn
  obtain ⟨o1, n1, c1, o2, n2, c2, hf, hg⟩ := hv_slices (h5 _ t ht).hv
  rw [hf, hg] at hn
  obtain ⟨d0, d1, d2, d3, d4⟩ := hn
  have hcase : o % 6 = 0 ∨ o % 6 = 1 ∨ o % 6 = 2 ∨ o % 6 = 3 ∨ o % 6 = 4 ∨ o % 6 = 5 := by omega
  have heq : o = o / 6 * 6 + o % 6 := by omega
  rcases hcase with e | e | e | e | e | e <;> rw [e] at heq <;> rw [heq]
  · exact ⟨_, hk', rfl⟩
  · exact ⟨_, d0, rfl⟩
  · exact ⟨_, d1, rfl⟩
  · exact ⟨_, d2, rfl⟩
  · exact ⟨_, d3, rfl⟩
  · exact ⟨_, d4, rfl⟩
set_option maxRecDepth 100000 in
set_option maxHeartbeats 2000000 in
theorem remove_any {w : World} {lo hi : Nat} {B : Addr} {T0 : VT} {p : List PStep} {a : Addr} {U : VT} {x y : Value} {la ha : Nat} (h : Hole w lo hi B T0 p a U x y la ha) (hB : ¬ (lo ≤ B.block ∧ B.block < hi)) (hlo : lo ≤ B.block) (hBs : B.block < w.heap.size) (hhi : hi ≤ w.heap.size) (hm : szT U ≤ 1000000) (s : PStep) :
    Calls Tryz.prog 40 #[.pointer (some a), pv s] w fun e w' => e = .returned (.bool (idxT U s).isSome) ∧ Below lo w w' ∧ (idxT U s = none ∨ ∃ i X Y, idxT U s = some i ∧ Node w' B (replP T0 p (delT U s i)) X Y ∧ HS w' (fun k => lo ≤ k ∧ k < w'.heap.size) (replP T0 p (delT U s i)) X Y) := by
  have hlw : lo ≤ w.heap.size := by omega
  have hab := h.ablock hlo hBs hhi
  have hks := hv_ks h.tree.hv
  have hl := szT_len U
  have C := hid (fun (X : World) (hX : Below w.heap.size w X) => index_any U x y a s X (h.node.onto hX) (h.tree.hv.onto hX))
  have HH := hid h
  have hsoft := h.soft
  obtain ⟨o1, n1, c1, o2, n2, c2, rfl, rfl⟩ := hv_slices h.tree.hv
  obtain ⟨k, n, st, L, K, V⟩ := U
  obtain ⟨key, at_, pl⟩ := s
  cases hix : idxT (.mk k n st L K V) ⟨key, at_, pl⟩ with
  | none =>
    rw [hix] at C
    simp only [pv] at C ⊢
    clear h hsoft hix
    go_enter Tryz.func40, Tryz.ntmps40
    go_wp2_with fail
    go_at_call 64
    refine (C.out _ (valloc_bel (Below.refl _ _) _)).mono ?_
    rintro e w1 ⟨rfl, hb1⟩
    have HB1 := hid (vonto (valloc_bel (Below.refl _ w) _) hb1)
    simp only [oI]
    clear hb1 C
    go_wp2_with fail
    go_ret
    exact ⟨rfl, HB1.out.mono hlw, .inl (by trivial)⟩
  | some i =>
    obtain ⟨t, hkt⟩ := idx_kid hks hix
    rw [hix] at C
    have hmf := h.tree.lists
    simp only [VT.ls, VT.ks, VT.vs] at hmf hl hks
    obtain ⟨m, hm1, hm2, hLF, hMF⟩ := hmf
    have hlL : L.length ≤ 1000000 := by omega
    have hlV : V.length ≤ 1000000 := by omega
    cases pl with
    | true =>
      have hil : i < L.length := lt_of_some (show L[i]? = some t by simpa [kidT, VT.ls] using hkt)
      obtain ⟨b, e1, e2⟩ : ∃ b, o1 = some ⟨b, 0, none⟩ ∧ n1 = L.length := by
        obtain ⟨b, -, -, -, ⟨o, hx, -, ho⟩, -⟩ := hLF
        injection hx with q1 q2 q3
        exact ⟨b, by rw [q1]; exact (ho (by omega)).1, q2⟩
      subst e1 e2
      obtain ⟨rfl, hc, hf, hbw⟩ := row_of5 hLF (by omega)
      have CD := hid (fun (X : World) (hX : Below w.heap.size w X) => delV_any b L.length i X hil (by omega) (fun o ho => by obtain ⟨u, h1, h2⟩ := hc o ho; exact ⟨u, keepCell hX h1, h2⟩) (fun o => (hX.frozen (show b < w.heap.size from hbw)).trans (hf o)))
      have HE := hid (fun (w1 w2 : World) (h1 : Below w.heap.size w w1) (h2 : Moved w1 w2 b (i * 5) ((L.length - 1 - i) * 5) 5) => HH.out.eraseL hB hlo hBs hhi hil h1 h2)
      obtain ⟨-, -, -, d3, -⟩ := h.node
      have hane : a.block ≠ b := fun e => h.out (by
        obtain ⟨b', l, f, g, ⟨o, hx, -, ho⟩, g2, g3, -⟩ := hLF
        obtain ⟨ho, -⟩ := ho (by omega)
        subst ho
        injection hx with q1
        injection q1 with q1
        injection q1 with q1
        subst q1
        have := g2 (by omega); have := g3 0 _ (Nat.zero_le _) (Nat.le_refl L.length); omega)
      have hpl := h.plain
      clear h hLF hMF hc hf hkt hks hl
      simp only [pv] at C ⊢
      go_enter Tryz.func40, Tryz.ntmps40
      go_wp2_with fail
      go_at_call 64
      refine (C.out _ (valloc_bel (Below.refl _ _) _)).mono ?_
      rintro e w1 ⟨rfl, hb1⟩
      have HB1 := hid (vonto (valloc_bel (Below.refl _ w) _) hb1)
      have q2 : w1.cell? ⟨w.heap.size, 2, none⟩ = some (.bool true) := keepCell hb1 (by simp)
      have q3 := keepCell HB1.out d3
      simp only [oI]
      clear hb1 C d3
      have hnn : ¬ ((i : Int) < 0) := by omega
      go_wp2_with fail
      go_at_call 68
      refine (CD.out _ HB1.out).mono ?_
      rintro e w2 ⟨rfl, hmv⟩
      obtain ⟨⟨X, Y, hn9, hs9⟩, hb9⟩ := HE.out w1 w2 HB1.out hmv
      have HN9 := hid hn9
      have HS9 := hid hs9
      have HB9 := hid hb9
      have hs1 := HB1.out.size
      have z3 : w2.cell? ⟨a.block, a.off + 3, none⟩ = some (.slice (some ⟨b, 0, none⟩) L.length L.length) := by rw [World.cell?_of_block (w := w1) (show w2.heap[(⟨a.block, a.off + 3, none⟩ : Addr).block]? = _ from hmv.far a.block (by omega) hane)]; exact q3
      have zf : w2.frozen? ⟨a.block, a.off + 3, none⟩ = false := by
        have e1 : w2.heap[a.block]? = w.heap[a.block]? := (hmv.far _ (by omega) hane).trans (HB1.out.block _ hab.2)
        have := hsoft (a.off + 3)
        simpa [World.frozen?, e1] using this
      clear hn9 hs9 hb9 HE CD hmv
      go_wp2_with fail
      go_ret
      exact ⟨rfl, HB9.out, .inr ⟨i, X, Y, by trivial, HN9.out, HS9.out.onto (fun _ _ => rfl) (fun k hk => by simpa using hk)⟩⟩
    | false =>
      have hil : i < V.length := lt_of_some (show V[i]? = some t by simpa [kidT, VT.vs] using hkt)
      obtain ⟨b, e1, e2⟩ : ∃ b, o2 = some ⟨b, 0, none⟩ ∧ n2 = V.length := by
        obtain ⟨b, -, -, -, ⟨o, hx, -, ho⟩, -⟩ := hMF
        injection hx with q1 q2 q3
        exact ⟨b, by rw [q1]; exact (ho (by omega)).1, q2⟩
      subst e1 e2
      obtain ⟨rfl, hc, hf, hbw⟩ := row_of6 hMF (by omega)
      have CD := hid (fun (X : World) (hX : Below w.heap.size w X) => delP_any b V.length i X hil (by omega) (fun o ho => by obtain ⟨u, h1, h2⟩ := hc o ho; exact ⟨u, keepCell hX h1, h2⟩) (fun o => (hX.frozen (show b < w.heap.size from hbw)).trans (hf o)))
      have HE := hid (fun (w1 w2 : World) (h1 : Below w.heap.size w w1) (h2 : Moved w1 w2 b (i * 6) ((V.length - 1 - i) * 6) 6) => HH.out.eraseM hB hlo hBs hhi hil h1 h2)
      obtain ⟨-, -, -, -, d3⟩ := h.node
      have hane : a.block ≠ b := fun e => h.out (by
        obtain ⟨b', l, f, g, ⟨o, hx, -, ho⟩, -, g2, g3, -⟩ := hMF
        obtain ⟨ho, -⟩ := ho (by omega)
        subst ho
        injection hx with q1
        injection q1 with q1
        injection q1 with q1
        subst q1
        have := g2 (by omega); have := g3 0 _ (Nat.zero_le _) (Nat.le_refl V.length); omega)
      have hpl := h.plain
      clear h hLF hMF hc hf hkt hks hl
      simp only [pv] at C ⊢
      go_enter Tryz.func40, Tryz.ntmps40
      go_wp2_with fail
      go_at_call 64
      refine (C.out _ (valloc_bel (Below.refl _ _) _)).mono ?_
      rintro e w1 ⟨rfl, hb1⟩
      have HB1 := hid (vonto (valloc_bel (Below.refl _ w) _) hb1)
      have q2 : w1.cell? ⟨w.heap.size, 2, none⟩ = some (.bool false) := keepCell hb1 (by simp)
      have q3 := keepCell HB1.out d3
      simp only [oI]
      clear hb1 C d3
      have hnn : ¬ ((i : Int) < 0) := by omega
      go_wp2_with fail
      go_at_call 69
      refine (CD.out _ HB1.out).mono ?_
      rintro e w2 ⟨rfl, hmv⟩
      obtain ⟨⟨X, Y, hn9, hs9⟩, hb9⟩ := HE.out w1 w2 HB1.out hmv
      have HN9 := hid hn9
      have HS9 := hid hs9
      have HB9 := hid hb9
      have hs1 := HB1.out.size
      have z3 : w2.cell? ⟨a.block, a.off + 4, none⟩ = some (.slice (some ⟨b, 0, none⟩) V.length V.length) := by rw [World.cell?_of_block (w := w1) (show w2.heap[(⟨a.block, a.off + 4, none⟩ : Addr).block]? = _ from hmv.far a.block (by omega) hane)]; exact q3
      have zf : w2.frozen? ⟨a.block, a.off + 4, none⟩ = false := by
        have e1 : w2.heap[a.block]? = w.heap[a.block]? := (hmv.far _ (by omega) hane).trans (HB1.out.block _ hab.2)
        have := hsoft (a.off + 4)
        simpa [World.frozen?, e1] using this
      clear hn9 hs9 hb9 HE CD hmv
      go_wp2_with fail
      go_ret
      exact ⟨rfl, HB9.out, .inr ⟨i, X, Y, by trivial, HN9.out, HS9.out.onto (fun _ _ => rfl) (fun k hk => by simpa using hk)⟩⟩
end Go.Proofs.YtjcejjejlekelaaGreatDoor
namespace Go.Proofs.YtjcejjejlekelaaGreatDoor
open Go.RowKit

theorem Hole.onto {w w' : World} {lo hi : Nat} {B : Addr} {T0 : VT} {p : List PStep} {a : Addr} {U : VT} {x y : Value} {la ha : Nat} (h : Hole w lo hi B T0 p a U x y la ha) (hlo : lo ≤ B.block) (hBs : B.block < w.heap.size) (hhi : hi ≤ w.heap.size) (hb : Below w.heap.size w w') : Hole w' lo hi B T0 p a U x y la ha := by
  have hab := h.ablock hlo hBs hhi
  have hin := h.inn
  refine ⟨h.node.onto hb, h.tree.onto (fun k h1 h2 => hb.block k (by omega)), h.get, h.inn, h.out, h.at_, h.plain, fun o => (hb.frozen (p := ⟨a.block, o, none⟩) hab.2).trans (h.soft o), fun w2 S T' x' y' hk hS hn hs => h.back w2 S T' x' y' ⟨fun k h1 h2 h3 h4 => (hk.far k h1 h2 h3 h4).trans (hb.block k (by omega)), fun hne => (hk.root hne).trans (hb.block _ hBs), fun o ho => (hk.near o ho).trans (hb.cell hab.2)⟩ hS hn hs⟩
/-- a node of a tree in a box, to be changed -/
def QH (w : World) (lo hi : Nat) (B : Addr) (T0 : VT) (p : List PStep) (a : Addr) (U : VT) (x y : Value) : Prop := (∃ la ha, Hole w lo hi B T0 p a U x y la ha) ∧ szT U ≤ 1000000
theorem QH.desc (w : World) (lo hi : Nat) (B : Addr) (T0 : VT) (hB : ¬ (lo ≤ B.block ∧ B.block < hi)) : Desc w (QH w lo hi B T0) where
  node := fun p a T x y h => by obtain ⟨⟨la, ha, h⟩, -⟩ := h; exact ⟨h.node, h.tree.hv⟩
  stepL := fun p a T x y s i t h hp hi hk => by
    obtain ⟨⟨la, ha, h⟩, hm⟩ := h
    have hsz := kid_small hk
    have hl := szT_len T
    obtain ⟨b, x', y', la', ha', hx, hil, h'⟩ := h.stepL hB s hp i t hi hk
    exact ⟨⟨b, 0, none⟩, _, _, x', y', hx, hil, by omega, by rw [add_at]; exact ⟨⟨la', ha', h'⟩, by omega⟩⟩
  stepM := fun p a T x y s i t h hp hi hk => by
    obtain ⟨⟨la, ha, h⟩, hm⟩ := h
    have hsz := kid_small hk
    have hl := szT_len T
    obtain ⟨b, x', y', la', ha', hx, hil, h'⟩ := h.stepM hB s hp i t hi hk
    exact ⟨⟨b, 0, none⟩, _, _, x', y', hx, hil, by omega, by rw [add_at]; exact ⟨⟨la', ha', h'⟩, by omega⟩⟩
theorem inp_take {w : World} {ps : List PStep} {o : Option Addr} {n c m : Nat} (h : InP w ps (.slice o n c)) (hm : m ≤ n) : InP w (ps.take m) (.slice o m c) := by
  obtain ⟨a, ⟨o', cap, e, h1, h2, h3⟩, hc⟩ := h
  injection e with e1 e2 e3
  subst e1 e2 e3
  refine ⟨a, ⟨o, c, by rw [List.length_take, Nat.min_eq_left hm], by rw [List.length_take]; omega, h2, fun h0 => h3 (by rw [List.length_take] at h0; omega)⟩, fun i s hs => hc i s ?_⟩
  rw [List.getElem?_take] at hs
  split at hs
  · exact hs
  · cases hs
/-- what is dropped at a path -/
def dropP (T : VT) (ps : List PStep) : Option VT := match ps.getLast? with
  | none => none
  | some s => match getP T ps.dropLast with
    | none => none
    | some U => match idxT U s with
      | none => none
      | some i => some (replP T ps.dropLast (delT U s i))
def eN (o : Option VT) : Int := match o with
  | none => 9
  | some _ => 0
set_option maxRecDepth 100000 in
set_option maxHeartbeats 2000000 in
theorem pdrop_any (T : VT) (x y : Value) (ps : List PStep) (v : Value) (w : World) (hT : HV w T x y) (hm : szT T ≤ 1000000) (hp : InP w ps v) (hpl : ps.length ≤ 1000000) :
    Calls Tryz.prog 15 #[vv T x y, v] w fun e w' => ∃ R X Y, e = .returned (.tuple #[vv R X Y, .int .i64 (eN (dropP T ps))]) ∧ R = (dropP T ps).getD zeroT ∧ HS w' (fun k => w.heap.size ≤ k ∧ k < w'.heap.size) R X Y ∧ Below w.heap.size w w' := by
  have HC : Hid (∀ t : VT, szT t ≤ 1000000 → CopyOk t) := fun t h => vcopy_any (szT t) t (Nat.le_refl _) h
  obtain ⟨o1, n1, c1, o2, n2, c2, rfl, rfl⟩ := hv_slices hT
  obtain ⟨op, cp, rfl⟩ : ∃ o c, v = .slice o ps.length c := by obtain ⟨a, ⟨o, c, e, -⟩, -⟩ := hp; exact ⟨o, c, e⟩
  have HP := hid hp
  have hcp : ps.length ≤ cp := by obtain ⟨a, ⟨o, c, e, h1, -⟩, -⟩ := hp; injection e with e1 e2 e3; omega
  have HZ := hid (Row.new (w.alloc (.cells #[.int .i64 T.kd, .int .i64 T.nm, .string T.st, .slice o1 n1 c1, .slice o2 n2 c2] 31)) #[.int .i64 0, .int .i64 0, .string ⟨#[]⟩, .slice none 0 0, .slice none 0 0] 31)
  have HCP := hid (HC.out T hm _ _ ((w.alloc (.cells #[.int .i64 T.kd, .int .i64 T.nm, .string T.st, .slice o1 n1 c1, .slice o2 n2 c2] 31)).alloc (.cells #[.int .i64 0, .int .i64 0, .string ⟨#[]⟩, .slice none 0 0, .slice none 0 0] 31)) (hT.onto (valloc_bel (valloc_bel (Below.refl _ _) _) _)))
  simp only [vv] at HCP ⊢
  clear hT HC hp
  rcases List.eq_nil_or_concat ps with rfl | ⟨qs, s, rfl⟩
  · clear HCP HP
    simp only [List.length_nil] at *
    go_enter Tryz.func15, Tryz.ntmps15
    go_wp2_with fail
    refine bodyPost_ret (v := .tuple #[vv zeroT (.slice none 0 0) (.slice none 0 0), .int .i64 9]) (by simp [results, Tryz.results15, go_sem, vv, zeroT, VT.kd, VT.nm, VT.st]) rfl ⟨zeroT, .slice none 0 0, .slice none 0 0, rfl, rfl, (hf_zero _ _ _ (by simp; omega)).hs, ?_⟩
    exact valloc_bel (valloc_bel (Below.refl _ _) _) _
  · simp only [List.concat_eq_append, List.length_append, List.length_singleton] at *
    go_enter Tryz.func15, Tryz.ntmps15
    go_wp2_with fail
    go_at_call 38
    refine HCP.out.mono ?_
    rintro e w3 ⟨X3, Y3, rfl, hf3, hb3⟩
    obtain ⟨p1, m1, k1, p2, m2, k2, rfl, rfl⟩ := hv_slices hf3.hv
    dsimp only
    have e2 : ((w.alloc (.cells #[.int .i64 T.kd, .int .i64 T.nm, .string T.st, .slice o1 n1 c1, .slice o2 n2 c2] 31)).alloc (.cells #[.int .i64 0, .int .i64 0, .string ⟨#[]⟩, .slice none 0 0, .slice none 0 0] 31)).heap.size = w.heap.size + 2 := by simp
    have R3 := HZ.out.onto (hb3.block _ (by rw [e2]; simp))
    rw [World.size_alloc] at R3
    rw [e2] at hf3 hb3
    have HB3 := hid ((valloc_bel (valloc_bel (Below.refl _ w) _) _).trans (hb3.mono (show w.heap.size ≤ w.heap.size + 2 by omega)))
    have hs3 : w.heap.size + 2 ≤ w3.heap.size := by have := hb3.size; rw [e2] at this; exact this
    obtain ⟨hn4, hz4⟩ := bx_new hf3.hv 31
    have hb4 : Below w3.heap.size w3 (w3.alloc (.cells #[.int .i64 T.kd, .int .i64 T.nm, .string T.st, .slice p1 m1 k1, .slice p2 m2 k2] 31)) := valloc_bel (Below.refl _ _) _
    have hole0 : Hole (w3.alloc (.cells #[.int .i64 T.kd, .int .i64 T.nm, .string T.st, .slice p1 m1 k1, .slice p2 m2 k2] 31)) (w.heap.size + 2) w3.heap.size ⟨w3.heap.size, 0, none⟩ T [] ⟨w3.heap.size, 0, none⟩ T (.slice p1 m1 k1) (.slice p2 m2 k2) (w.heap.size + 2) w3.heap.size :=
      Hole.root hn4 (hf3.onto (fun k h1 h2 => hb4.block k h2)) (by simp) rfl (fun o => (Row.new w3 _ _).frozen o)
    have hB0 : ¬ (w.heap.size + 2 ≤ w3.heap.size ∧ w3.heap.size < w3.heap.size) := by omega
    have hpq : InP w qs (.slice op qs.length cp) := by
      have := inp_take HP.out (m := qs.length) (by omega)
      rwa [List.take_left] at this
    have CF := hid (find_of (QH _ (w.heap.size + 2) w3.heap.size ⟨w3.heap.size, 0, none⟩ T) _ (QH.desc _ _ _ _ _ hB0) ⟨w3.heap.size, 0, none⟩ T _ _ ⟨⟨_, _, hole0⟩, hm⟩ qs (.slice op qs.length cp) (hpq.onto ((HB3.out.trans (hb4.mono (by omega))))))
    have HB4 := hid (HB3.out.trans (hb4.mono (show w.heap.size ≤ w3.heap.size by omega)))
    have R4 := hid (R3.onto (hb4.block _ (by omega)))
    obtain ⟨pa, ⟨_, _, hse, -, -, hsp⟩, hsc⟩ := HP.out
    injection hse with hse1 hse2 hse3
    subst hse1
    obtain rfl := hsp (by simp)
    obtain ⟨s0, s1, s2, -⟩ := hsc qs.length s (by simp)
    have HS0 : Hid (∀ X, Below w.heap.size w X → X.cell? (pa.add (qs.length * 3)) = some (.string s.key) ∧ X.cell? ⟨(pa.add (qs.length * 3)).block, (pa.add (qs.length * 3)).off + 1, none⟩ = some (.int .i64 s.at_) ∧ X.cell? ⟨(pa.add (qs.length * 3)).block, (pa.add (qs.length * 3)).off + 2, none⟩ = some (.bool s.place)) := fun X hX => ⟨keepCell hX s0, keepCell hX s1, keepCell hX s2⟩
    have hs4 : (w3.alloc (.cells #[.int .i64 T.kd, .int .i64 T.nm, .string T.st, .slice p1 m1 k1, .slice p2 m2 k2] 31)).heap.size = w3.heap.size + 1 := World.size_alloc _ _
    have HS4 := hid hs4
    clear hsc hsp s0 s1 s2 hole0 hpq hn4 hz4 hb4 hf3 hb3 R3 HZ HP HCP hs4 e2 hse2 hse3
    have hwr : IntKind.i64.wrap (qs.length : Int) = qs.length := by rw [IntKind.wrap_i64]; omega
    have hneq : ((qs.length : Int) + 1 == 0) = false := by simp; omega
    go_wp2_with fail
    go_at_call 37
    refine CF.out.mono ?_
    rintro e w5 ⟨hc, hb5⟩
    have hs4 := HS4.out
    have HB5 := hid (HB4.out.trans (hb5.mono (by rw [hs4]; omega)))
    have R5 := hid (R4.out.onto (hb5.block _ (by rw [hs4]; omega)))
    have hs5 := hb5.size
    rw [hs4] at hs5
    have hb4w : w3.heap.size < (w3.alloc (.cells #[.int .i64 T.kd, .int .i64 T.nm, .string T.st, .slice p1 m1 k1, .slice p2 m2 k2] 31)).heap.size := by rw [hs4]; omega
    have hb4v : w3.heap.size ≤ (w3.alloc (.cells #[.int .i64 T.kd, .int .i64 T.nm, .string T.st, .slice p1 m1 k1, .slice p2 m2 k2] 31)).heap.size := by rw [hs4]; omega
    clear hs4 HS4
    rcases hc with ⟨hg, rfl⟩ | ⟨a, U, x', y', ⟨⟨la, ha, hh⟩, hmU⟩, hg, rfl⟩
    · clear hb5 CF hb4w hb4v
      obtain ⟨u0, e0⟩ := R5.out.cell (o := 0) (by decide)
      obtain ⟨u1, e1⟩ := R5.out.cell (o := 1) (by decide)
      obtain ⟨u2, e2⟩ := R5.out.cell (o := 2) (by decide)
      obtain ⟨u3, e3⟩ := R5.out.cell (o := 3) (by decide)
      obtain ⟨u4, e4⟩ := R5.out.cell (o := 4) (by decide)
      have z0 := R5.out.frozen
      have HD := hid (show dropP T (qs ++ [s]) = none by simp [dropP, hg])
      clear hg
      go_wp2_with fail
      refine bodyPost_ret (v := .tuple #[vv zeroT (.slice none 0 0) (.slice none 0 0), .int .i64 9]) (by simp [results, Tryz.results15, go_sem, vv, zeroT, VT.kd, VT.nm, VT.st, e0, e1, e2, e3, e4]) rfl ⟨zeroT, .slice none 0 0, .slice none 0 0, ?_, ?_, (hf_zero _ _ _ (by simp; omega)).hs, ?_⟩
      · rw [HD.out]; rfl
      · rw [HD.out]; rfl
      · exact vset_bel (vset_bel (vset_bel (vset_bel (vset_bel HB5.out (by simp)) (by simp)) (by simp)) (by simp)) (by simp)
    · have hh5 := hh.onto (show w.heap.size + 2 ≤ w3.heap.size from hs3) hb4w hb4v hb5
      have C := hid (fun (X : World) (hX : Below w5.heap.size w5 X) => remove_any (hh5.onto (show w.heap.size + 2 ≤ w3.heap.size from hs3) (show w3.heap.size < w5.heap.size by omega) (by omega) hX) hB0 hs3 (Nat.lt_of_lt_of_le (show w3.heap.size < w5.heap.size by omega) hX.size) (Nat.le_trans (show w3.heap.size ≤ w5.heap.size by omega) hX.size) hmU s)
      obtain ⟨s0, s1, s2⟩ := HS0.out w5 HB5.out
      have HG := hid hg
      clear hh hh5 hb5 CF hg hb4w hb4v
      obtain ⟨key, at_, pl⟩ := s
      simp only [pv] at C
      simp only at s0 s1 s2
      go_wp2_with fail
      go_at_call 40
      refine (C.out _ (Below.refl _ _)).mono ?_
      rintro e w6 ⟨rfl, hb6, hc6⟩
      have HB6 := hid (HB5.out.trans (hb6.mono (show w.heap.size ≤ w.heap.size + 2 by omega)))
      have R6 := hid (R5.out.onto (hb6.block _ (by omega)))
      have hs6 := hb6.size
      obtain ⟨u0, e0⟩ := R6.out.cell (o := 0) (by decide)
      obtain ⟨u1, e1⟩ := R6.out.cell (o := 1) (by decide)
      obtain ⟨u2, e2⟩ := R6.out.cell (o := 2) (by decide)
      obtain ⟨u3, e3⟩ := R6.out.cell (o := 3) (by decide)
      obtain ⟨u4, e4⟩ := R6.out.cell (o := 4) (by decide)
      have z0 := R6.out.frozen
      dsimp only
      rcases hc6 with hix | ⟨i, X, Y, hix, hn6, hs9⟩
      · have HD := hid (show dropP T (qs ++ [⟨key, at_, pl⟩]) = none by simp [dropP, HG.out, hix])
        rw [hix]
        simp only [Option.isSome_none]
        clear hb6 C hix HG s0 s1 s2
        go_wp2_with fail
        refine bodyPost_ret (v := .tuple #[vv zeroT (.slice none 0 0) (.slice none 0 0), .int .i64 9]) (by simp [results, Tryz.results15, go_sem, vv, zeroT, VT.kd, VT.nm, VT.st, e0, e1, e2, e3, e4]) rfl ⟨zeroT, .slice none 0 0, .slice none 0 0, ?_, ?_, (hf_zero _ _ _ (by simp; omega)).hs, ?_⟩
        · rw [HD.out]; rfl
        · rw [HD.out]; rfl
        · exact vset_bel (vset_bel (vset_bel (vset_bel (vset_bel HB6.out (by simp)) (by simp)) (by simp)) (by simp)) (by simp)
      · have HD := hid (show dropP T (qs ++ [⟨key, at_, pl⟩]) = some (replP T qs (delT U ⟨key, at_, pl⟩ i)) by simp [dropP, HG.out, hix])
        rw [hix]
        simp only [Option.isSome_some]
        generalize replP T qs (delT U ⟨key, at_, pl⟩ i) = R at *
        obtain ⟨q1, l1, j1, q2, l2, j2, rfl, rfl⟩ := hv_slices hs9.hv
        obtain ⟨d0, d1, d2, d3, d4⟩ := hn6
        simp only [Nat.zero_add] at d1 d2 d3 d4
        have HS9 := hid hs9
        clear hb6 C hix HG s0 s1 s2 hs9
        go_wp2_with fail
        refine bodyPost_ret (v := .tuple #[vv R (.slice q1 l1 j1) (.slice q2 l2 j2), .int .i64 0]) (by simp [results, Tryz.results15, go_sem, vv, e0, e1, e2, e3, e4]) rfl ⟨R, .slice q1 l1 j1, .slice q2 l2 j2, ?_, ?_, ?_, ?_⟩
        · rw [HD.out]; rfl
        · rw [HD.out]; rfl
        · refine HS9.out.onto (fun k hk => ?_) (fun k hk => ?_)
          · exact put5_heap _ _ _ _ _ _ _ _ _ (by omega)
          · simp; omega
        · exact vset_bel (vset_bel (vset_bel (vset_bel (vset_bel HB6.out (by simp)) (by simp)) (by simp)) (by simp)) (by simp)
end Go.Proofs.YtjcejjejlekelaaGreatDoor
