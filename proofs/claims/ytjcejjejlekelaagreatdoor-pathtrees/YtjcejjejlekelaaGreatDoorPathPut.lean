import Derived.Test.YtjcejjejlekelaaGreatDoorPathDel
import Derived.Deep.RegionLawGrows
/- path.put, walked: where something stands already. -/
/- path.put, walked: where nothing can be put. -/
/- A list with one part more: what then lies in memory. -/
/- path.put, walked: behind a list's last part. -/
namespace Go.Proofs.YtjcejjejlekelaaGreatDoor
open Go.RowKit

theorem put5_at {w : World} {a : Addr} {T : VT} {x y : Value} (h : Node w a T x y) (hs : a.spot = none) (T' : VT) (X Y : Value) : Node (put5 w a.block a.off (.int .i64 T'.kd) (.int .i64 T'.nm) (.string T'.st) X Y) a T' X Y := by
  obtain ⟨d0, d1, d2, d3, d4⟩ := h
  have ha := addr_is hs
  generalize a.block = b at *
  generalize a.off = o at *
  subst ha
  unfold put5
  refine ⟨?_, ?_, ?_, ?_, ?_⟩
  · show World.cell? _ ⟨b, o, none⟩ = _
    rw [set_other _ _ _ _ _ _ (.inr (by omega)), set_other _ _ _ _ _ _ (.inr (by omega)), set_other _ _ _ _ _ _ (.inr (by omega)), set_other _ _ _ _ _ _ (.inr (by omega))]
    exact World.cell?_setCell_same _ _ _ d0
  · show World.cell? _ ⟨b, o + 1, none⟩ = _
    rw [set_other _ _ _ _ _ _ (.inr (by omega)), set_other _ _ _ _ _ _ (.inr (by omega)), set_other _ _ _ _ _ _ (.inr (by omega))]
    exact World.cell?_setCell_same _ _ _ ((set_other _ _ _ _ _ _ (.inr (by omega))).trans d1)
  · show World.cell? _ ⟨b, o + 2, none⟩ = _
    rw [set_other _ _ _ _ _ _ (.inr (by omega)), set_other _ _ _ _ _ _ (.inr (by omega))]
    exact World.cell?_setCell_same _ _ _ (by rw [set_other _ _ _ _ _ _ (.inr (by omega)), set_other _ _ _ _ _ _ (.inr (by omega))]; exact d2)
  · show World.cell? _ ⟨b, o + 3, none⟩ = _
    rw [set_other _ _ _ _ _ _ (.inr (by omega))]
    exact World.cell?_setCell_same _ _ _ (by rw [set_other _ _ _ _ _ _ (.inr (by omega)), set_other _ _ _ _ _ _ (.inr (by omega)), set_other _ _ _ _ _ _ (.inr (by omega))]; exact d3)
  · show World.cell? _ ⟨b, o + 4, none⟩ = _
    exact World.cell?_setCell_same _ _ _ (by rw [set_other _ _ _ _ _ _ (.inr (by omega)), set_other _ _ _ _ _ _ (.inr (by omega)), set_other _ _ _ _ _ _ (.inr (by omega)), set_other _ _ _ _ _ _ (.inr (by omega))]; exact d4)
theorem put5_bel {B : Nat} {a w : World} {b o : Nat} {v0 v1 v2 v3 v4 : Value} (h : Below B a w) (hb : B ≤ b) : Below B a (put5 w b o v0 v1 v2 v3 v4) :=
  ((((h.setCell (p := ⟨b, o, none⟩) hb _).setCell (p := ⟨b, o + 1, none⟩) hb _).setCell (p := ⟨b, o + 2, none⟩) hb _).setCell (p := ⟨b, o + 3, none⟩) hb _).setCell (p := ⟨b, o + 4, none⟩) hb _
/-- another tree at a node -/
theorem Hole.put {w : World} {lo hi : Nat} {B : Addr} {T0 : VT} {p : List PStep} {a : Addr} {U : VT} {x y : Value} {la ha : Nat} (h : Hole w lo hi B T0 p a U x y la ha) (hlo : lo ≤ B.block) (hBs : B.block < w.heap.size) (hhi : hi ≤ w.heap.size) {Tx : VT} {X Y : Value} {Sx : Nat → Prop} (hx : HS w Sx Tx X Y) (hSx : ∀ k, Sx k → lo ≤ k ∧ k < w.heap.size ∧ k ≠ a.block) :
    (∃ X' Y', Node (put5 w a.block a.off (.int .i64 Tx.kd) (.int .i64 Tx.nm) (.string Tx.st) X Y) B (replP T0 p Tx) X' Y' ∧ HS (put5 w a.block a.off (.int .i64 Tx.kd) (.int .i64 Tx.nm) (.string Tx.st) X Y) (fun k => lo ≤ k ∧ k < w.heap.size) (replP T0 p Tx) X' Y') ∧ Below lo w (put5 w a.block a.off (.int .i64 Tx.kd) (.int .i64 Tx.nm) (.string Tx.st) X Y) := by
  have hab := h.ablock hlo hBs hhi
  refine ⟨h.back _ _ Tx X Y ⟨fun k _ _ h3 _ => put5_heap _ _ _ _ _ _ _ _ _ h3, fun hne => put5_heap _ _ _ _ _ _ _ _ _ hne, fun o ho => put5_other _ _ _ _ _ _ _ _ _ (by omega)⟩ (fun k h1 h2 => ⟨h1, by omega⟩) (put5_at h.node h.plain Tx X Y) (hx.onto (fun k hk => put5_heap _ _ _ _ _ _ _ _ _ (hSx k hk).2.2) (fun k hk => ⟨(hSx k hk).1, (hSx k hk).2.1⟩)), put5_bel (Below.refl _ _) hab.1⟩
/-- going down from a node -/
theorem QH.desc2 (w : World) (lo hi : Nat) (B : Addr) (T0 : VT) (p : List PStep) (hB : ¬ (lo ≤ B.block ∧ B.block < hi)) : Desc w (fun q => QH w lo hi B T0 (p ++ q)) where
  node := fun q a T x y h => (QH.desc w lo hi B T0 hB).node _ _ _ _ _ h
  stepL := fun q a T x y s i t h h1 h2 h3 => by
    have := (QH.desc w lo hi B T0 hB).stepL _ _ _ _ _ s i t h h1 h2 h3
    rwa [List.append_assoc] at this
  stepM := fun q a T x y s i t h h1 h2 h3 => by
    have := (QH.desc w lo hi B T0 hB).stepM _ _ _ _ _ s i t h h1 h2 h3
    rwa [List.append_assoc] at this
theorem inp_new (w : World) (s : PStep) (hs : s.key.size ≤ maxLen) : InP (w.alloc (.cells #[.string s.key, .int .i64 s.at_, .bool s.place] 36)) [s] (.slice (some ⟨w.heap.size, 0, none⟩) 1 1) := by
  refine ⟨⟨w.heap.size, 0, none⟩, ⟨_, _, rfl, Nat.le_refl _, by unfold maxLen; decide, fun _ => rfl⟩, fun i t ht => ?_⟩
  have hi : i = 0 := by have := lt_of_some ht; simpa using this
  subst hi
  simp at ht
  subst ht
  rw [add_at]
  exact ⟨by simp, by simp, by simp, hs⟩
set_option maxRecDepth 100000 in
set_option maxHeartbeats 2000000 in
theorem put_there {w : World} {lo hi : Nat} {B : Addr} {T0 : VT} {p : List PStep} {a : Addr} {U : VT} {x y : Value} {la ha : Nat} (h : Hole w lo hi B T0 p a U x y la ha) (hB : ¬ (lo ≤ B.block ∧ B.block < hi)) (hlo : lo ≤ B.block) (hBs : B.block < w.heap.size) (hhi : hi ≤ w.heap.size) (hm : szT U ≤ 1000000) (s : PStep) (hsk : s.key.size ≤ maxLen) {Tx : VT} {X Y : Value} {Sx : Nat → Prop} (hx : HS w Sx Tx X Y) (hSx : ∀ k, Sx k → lo ≤ k ∧ k < w.heap.size ∧ ¬ (lo ≤ k ∧ k < hi) ∧ k ≠ B.block) (i : Nat) (hix : idxT U s = some i) :
    Calls Tryz.prog 39 #[.pointer (some a), pv s, vv Tx X Y] w fun e w' => e = .returned (.bool true) ∧ Below lo w w' ∧ ∃ X' Y', Node w' B (replP T0 p (repT U s i Tx)) X' Y' ∧ HS w' (fun k => lo ≤ k ∧ k < w'.heap.size) (replP T0 p (repT U s i Tx)) X' Y' := by
  obtain ⟨t, hkt⟩ := idx_kid (hv_ks h.tree.hv) hix
  have hsn := replP_snoc p T0 U s i Tx t h.get hix hkt
  have hgp : getP U [s] = some t := by simp [getP, hix, hkt]
  obtain ⟨o1, n1, c1, o2, n2, c2, rfl, rfl⟩ := hv_slices hx.hv
  have hb0 : Below w.heap.size w (((w.alloc (.cells #[.string s.key, .int .i64 s.at_, .bool s.place] 36)).alloc (.cells #[.int .i64 Tx.kd, .int .i64 Tx.nm, .string Tx.st, .slice o1 n1 c1, .slice o2 n2 c2] 31)).alloc (.cells #[.string s.key, .int .i64 s.at_, .bool s.place] 36)) := valloc_bel (valloc_bel (valloc_bel (Below.refl _ _) _) _) _
  have hin := inp_new ((w.alloc (.cells #[.string s.key, .int .i64 s.at_, .bool s.place] 36)).alloc (.cells #[.int .i64 Tx.kd, .int .i64 Tx.nm, .string Tx.st, .slice o1 n1 c1, .slice o2 n2 c2] 31)) s hsk
  rw [show ((w.alloc (.cells #[.string s.key, .int .i64 s.at_, .bool s.place] 36)).alloc (.cells #[.int .i64 Tx.kd, .int .i64 Tx.nm, .string Tx.st, .slice o1 n1 c1, .slice o2 n2 c2] 31)).heap.size = w.heap.size + 2 by simp] at hin
  have h0 := h.onto hlo hBs hhi hb0
  have CF := hid (find_of (fun q => QH _ lo hi B T0 (p ++ q)) _ (QH.desc2 _ lo hi B T0 p hB) a U _ _ ⟨⟨la, ha, by rw [List.append_nil]; exact h0⟩, hm⟩ [s] _ hin)
  have HX := hid (fun X hX => hx.onto (w' := X) (S' := Sx) (fun k hk => (show Below w.heap.size w X from hX).block k (hSx k hk).2.1) (fun k hk => hk))
  have HB0 := hid hb0
  have HSN := hid hsn
  have HGP := hid hgp
  have HSX := hid hSx
  have h5 : ∀ o u, [Value.int .i64 Tx.kd, .int .i64 Tx.nm, .string Tx.st, .slice o1 n1 c1, .slice o2 n2 c2][o]? = some u → (((w.alloc (.cells #[.string s.key, .int .i64 s.at_, .bool s.place] 36)).alloc (.cells #[.int .i64 Tx.kd, .int .i64 Tx.nm, .string Tx.st, .slice o1 n1 c1, .slice o2 n2 c2] 31)).alloc (.cells #[.string s.key, .int .i64 s.at_, .bool s.place] 36)).cell? ⟨w.heap.size + 1, o, none⟩ = some u := fun o u hu => by
    have h1 := new_cells (w.alloc (.cells #[.string s.key, .int .i64 s.at_, .bool s.place] 36)) [Value.int .i64 Tx.kd, .int .i64 Tx.nm, .string Tx.st, .slice o1 n1 c1, .slice o2 n2 c2] 31 o u hu
    rw [World.size_alloc, add_at] at h1
    exact keepCell (valloc_bel (Below.refl _ _) _) h1
  have H5 := hid h5
  clear h h0 hx hSx hb0 hin hix hkt hsn hgp h5
  obtain ⟨key, at_, pl⟩ := s
  simp only [vv, pv]
  simp only at CF HB0 H5
  go_enter Tryz.func39, Tryz.ntmps39
  go_wp2_with fail
  go_at_call 37
  refine CF.out.mono ?_
  rintro e w1 ⟨hc, hb1⟩
  rcases hc with ⟨hg, -⟩ | ⟨a', U', x', y', ⟨⟨la', ha', hh⟩, -⟩, -, rfl⟩
  · rw [HGP.out] at hg; cases hg
  dsimp only
  have hsz0 := HB0.out.size
  have hs1 := hb1.size
  have hh1 := hh.onto hlo (Nat.lt_of_lt_of_le hBs hsz0) (Nat.le_trans hhi hsz0) hb1
  obtain ⟨b', o', sp⟩ := a'
  obtain rfl : sp = none := hh1.plain
  have HB1 := hid (vonto HB0.out hb1)
  have hsz1 := HB1.out.size
  have hat := hh1.at_
  have hpt := hh1.put hlo (Nat.lt_of_lt_of_le hBs hsz1) (Nat.le_trans hhi hsz1) (HX.out w1 HB1.out) (fun k hk => ⟨(HSX.out k hk).1, Nat.lt_of_lt_of_le (HSX.out k hk).2.1 hsz1, fun e => by
    have e' : k = b' := e
    have h3 := (HSX.out k hk).2.2
    rcases hat with hh | hh
    · exact h3.2 (by rw [← hh]; exact e')
    · exact h3.1 (by have h1 : lo ≤ b' := hh.1; have h2 : b' < hi := hh.2; omega)⟩)
  rw [HSN.out] at hpt
  have HPT := hid hpt
  obtain ⟨d0, d1, d2, d3, d4⟩ := hh1.node
  have hzf := hh1.soft
  have v0 := keepCell hb1 (H5.out 0 _ rfl)
  have v1 := keepCell hb1 (H5.out 1 _ rfl)
  have v2 := keepCell hb1 (H5.out 2 _ rfl)
  have v3 := keepCell hb1 (H5.out 3 _ rfl)
  have v4 := keepCell hb1 (H5.out 4 _ rfl)
  clear hpt hh hh1 hb1 CF H5 HX HGP HSN HSX hat hsz0 hs1
  go_wp2_with fail
  go_ret
  refine ⟨rfl, (HB1.out.mono ?_).trans HPT.out.2, ?_⟩
  · omega
  · obtain ⟨X', Y', h1, h2⟩ := HPT.out.1
    exact ⟨X', Y', h1, h2.onto (fun _ _ => rfl) (fun k hk => ⟨hk.1, by simpa using hk.2⟩)⟩
end Go.Proofs.YtjcejjejlekelaaGreatDoor
namespace Go.Proofs.YtjcejjejlekelaaGreatDoor
open Go.RowKit

set_option maxRecDepth 100000 in
set_option maxHeartbeats 2000000 in
theorem put_no {w : World} {lo hi : Nat} {B : Addr} {T0 : VT} {p : List PStep} {a : Addr} {U : VT} {x y : Value} {la ha : Nat} (h : Hole w lo hi B T0 p a U x y la ha) (hB : ¬ (lo ≤ B.block ∧ B.block < hi)) (hlo : lo ≤ B.block) (hBs : B.block < w.heap.size) (hhi : hi ≤ w.heap.size) (hm : szT U ≤ 1000000) (s : PStep) (hsk : s.key.size ≤ maxLen) {Tx : VT} {X Y : Value} (hx : HV w Tx X Y) (hix : idxT U s = none) (hno : ¬ (s.place = true ∧ U.kd = 5 ∧ s.at_ = U.ls.length)) (hno2 : ¬ (s.place = false ∧ U.kd = 6)) :
    Calls Tryz.prog 39 #[.pointer (some a), pv s, vv Tx X Y] w fun e w' => e = .returned (.bool false) ∧ Below w.heap.size w w' := by
  have hgp : getP U [s] = none := by simp [getP, hix]
  obtain ⟨o1, n1, c1, o2, n2, c2, rfl, rfl⟩ := hv_slices hx
  obtain ⟨o3, n3, c3, o4, n4, c4, rfl, rfl⟩ := hv_slices h.tree.hv
  have hb0 : Below w.heap.size w (((w.alloc (.cells #[.string s.key, .int .i64 s.at_, .bool s.place] 36)).alloc (.cells #[.int .i64 Tx.kd, .int .i64 Tx.nm, .string Tx.st, .slice o1 n1 c1, .slice o2 n2 c2] 31)).alloc (.cells #[.string s.key, .int .i64 s.at_, .bool s.place] 36)) := valloc_bel (valloc_bel (valloc_bel (Below.refl _ _) _) _) _
  have hin := inp_new ((w.alloc (.cells #[.string s.key, .int .i64 s.at_, .bool s.place] 36)).alloc (.cells #[.int .i64 Tx.kd, .int .i64 Tx.nm, .string Tx.st, .slice o1 n1 c1, .slice o2 n2 c2] 31)) s hsk
  rw [show ((w.alloc (.cells #[.string s.key, .int .i64 s.at_, .bool s.place] 36)).alloc (.cells #[.int .i64 Tx.kd, .int .i64 Tx.nm, .string Tx.st, .slice o1 n1 c1, .slice o2 n2 c2] 31)).heap.size = w.heap.size + 2 by simp] at hin
  have h0 := h.onto hlo hBs hhi hb0
  have CF := hid (find_of (fun q => QH _ lo hi B T0 (p ++ q)) _ (QH.desc2 _ lo hi B T0 p hB) a U _ _ ⟨⟨la, ha, by rw [List.append_nil]; exact h0⟩, hm⟩ [s] _ hin)
  have HB0 := hid hb0
  have HGP := hid hgp
  have h5 : ∀ o u, [Value.int .i64 Tx.kd, .int .i64 Tx.nm, .string Tx.st, .slice o1 n1 c1, .slice o2 n2 c2][o]? = some u → (((w.alloc (.cells #[.string s.key, .int .i64 s.at_, .bool s.place] 36)).alloc (.cells #[.int .i64 Tx.kd, .int .i64 Tx.nm, .string Tx.st, .slice o1 n1 c1, .slice o2 n2 c2] 31)).alloc (.cells #[.string s.key, .int .i64 s.at_, .bool s.place] 36)).cell? ⟨w.heap.size + 1, o, none⟩ = some u := fun o u hu => by
    have h1 := new_cells (w.alloc (.cells #[.string s.key, .int .i64 s.at_, .bool s.place] 36)) [Value.int .i64 Tx.kd, .int .i64 Tx.nm, .string Tx.st, .slice o1 n1 c1, .slice o2 n2 c2] 31 o u hu
    rw [World.size_alloc, add_at] at h1
    exact keepCell (valloc_bel (Below.refl _ _) _) h1
  have h3 : ∀ o u, [Value.string s.key, .int .i64 s.at_, .bool s.place][o]? = some u → (((w.alloc (.cells #[.string s.key, .int .i64 s.at_, .bool s.place] 36)).alloc (.cells #[.int .i64 Tx.kd, .int .i64 Tx.nm, .string Tx.st, .slice o1 n1 c1, .slice o2 n2 c2] 31)).alloc (.cells #[.string s.key, .int .i64 s.at_, .bool s.place] 36)).cell? ⟨w.heap.size, o, none⟩ = some u := fun o u hu => by
    have h1 := new_cells w [Value.string s.key, .int .i64 s.at_, .bool s.place] 36 o u hu
    rw [add_at] at h1
    exact keepCell (valloc_bel (valloc_bel (Below.refl _ _) _) _) h1
  have H5 := hid h5
  have H3 := hid h3
  have HN := hid h.node
  have n3e : n3 = U.ls.length := by
    obtain ⟨_, _, _, _, _, _, _, _, _, _, e, -⟩ := h.tree.hv.parts
    injection e
  clear h h0 hx hb0 hin hgp h5 h3 hix
  obtain ⟨key, at_, pl⟩ := s
  simp only [vv, pv]
  simp only at CF HB0 H5 H3 hno hno2
  subst n3e
  go_enter Tryz.func39, Tryz.ntmps39
  go_wp2_with fail
  go_at_call 37
  refine CF.out.mono ?_
  rintro e w1 ⟨hc, hb1⟩
  rcases hc with ⟨-, rfl⟩ | ⟨a', U', x', y', ⟨⟨la', ha', hh⟩, -⟩, hg, -⟩
  rotate_left
  · rw [HGP.out] at hg; cases hg
  dsimp only
  have HB1 := hid (vonto HB0.out hb1)
  obtain ⟨d0, d1, d2, d3, d4⟩ := HN.out.onto HB1.out
  have b1 := keepCell hb1 (H3.out 1 _ rfl)
  have b2 := keepCell hb1 (H3.out 2 _ rfl)
  clear hb1 CF H5 H3 HGP HN
  cases pl with
  | true =>
    clear hno2
    by_cases hk5 : U.kd = 5
    · have t5 : (U.kd == 5) = true := by simpa using hk5
      have hat : (at_ == (U.ls.length : Int)) = false := by
        rw [beq_eq_false_iff_ne]; exact fun e => hno ⟨rfl, hk5, e⟩
      clear hno hk5
      go_wp2_with fail
      go_region
      go_wp2_with fail
      all_goals go_ret
      all_goals exact ⟨rfl, HB1.out.drew⟩
    · have t5 : (U.kd == 5) = false := by simpa using hk5
      clear hno hk5
      go_wp2_with fail
      go_region
      go_wp2_with fail
      all_goals go_ret
      all_goals exact ⟨rfl, HB1.out.drew⟩
  | false =>
    have t6 : (U.kd == 6) = false := by rw [beq_eq_false_iff_ne]; exact fun e => hno2 ⟨rfl, e⟩
    clear hno hno2
    go_wp2_with fail
    go_region
    go_wp2_with fail
    all_goals go_ret
    all_goals exact ⟨rfl, HB1.out.drew⟩
end Go.Proofs.YtjcejjejlekelaaGreatDoor
namespace Go.Proofs.YtjcejjejlekelaaGreatDoor
open Go.RowKit

/-- a list with one part more -/
def addT (T x : VT) : VT := match T with
  | .mk k n st L K V => .mk k n st (L ++ [x]) K V
theorem row_olds {w : World} {lo hi : Nat} {L : List VT} {o : Option Addr} {n c : Nat} (h : LF w lo hi L (.slice o n c)) : c = n ∧ (o = none → n = 0 ∧ n = 0) ∧ ∃ olds : List Value, olds.length = n * 5 ∧ (∀ u ∈ olds, u.oneCell' = true) ∧ ∀ b, o = some b → ∀ j u, olds[j]? = some u → w.cell? (b.add j) = some u := by
  have h9 := h
  obtain ⟨b', l, f, g, ⟨o', hx, hmax, ho⟩, -, -, h4, h5⟩ := h
  injection hx with e1 e2 e3
  subst e1 e2
  refine ⟨e3, fun hn => ?_, ?_⟩
  · rcases Nat.eq_zero_or_pos L.length with e | e
    · exact ⟨e, e⟩
    · obtain ⟨q, -⟩ := ho e; rw [hn] at q; cases q
  · rcases Nat.eq_zero_or_pos L.length with e | e
    · exact ⟨[], by rw [e]; rfl, fun u hu => by simp at hu, fun b _ j u hu => by simp at hu⟩
    · obtain ⟨q, -⟩ := ho e
      subst q
      obtain ⟨-, hc, -, -⟩ := row_of5 h9 e
      refine ⟨(List.range (L.length * 5)).map fun j => (w.cell? ⟨b', j, none⟩).getD undef, by simp, fun u hu => ?_, fun b hb j u hu => ?_⟩
      · obtain ⟨j, hj, rfl⟩ := List.mem_map.1 hu
        obtain ⟨u, h1, h2⟩ := hc j (List.mem_range.1 hj)
        rw [h1]; exact h2
      · injection hb with hb
        subst hb
        have hj : j < L.length * 5 := by have := lt_of_some hu; simpa using this
        obtain ⟨u', h1, -⟩ := hc j hj
        rw [List.getElem?_map, List.getElem?_range hj] at hu
        simp only [Option.map_some, h1, Option.getD_some, Option.some.injEq] at hu
        subst hu
        rw [add_at]; exact h1
/-- the new row of a slice that has grown -/
theorem own_new {w : World} {B : Nat} {e : TypeId} {k n : Nat} {v : Value} {xs zs : List Value} (h : w.ownsRow B e k v (n + 1) (xs ++ zs)) (hx : xs.length = n * k) (hz : zs.length = k) : ∃ g cap, v = .slice (some ⟨g, 0, none⟩) (n + 1) cap ∧ B ≤ g ∧ g < w.heap.size ∧ n + 1 ≤ cap ∧ cap ≤ maxLen ∧ (∀ o, w.frozen? ⟨g, o, none⟩ = false) ∧ (∀ j u, xs[j]? = some u → w.cell? ⟨g, j, none⟩ = some u) ∧ ∀ c u, zs[c]? = some u → w.cell? ⟨g, n * k + c, none⟩ = some u := by
  have h9 := h
  rcases h.2 with ⟨-, e0⟩ | ⟨g, cap, cur, rfl, hb, hg, h1, h2, -, -⟩
  · omega
  · refine ⟨g, cap, rfl, hb, (Array.getElem?_eq_some_iff.1 hg).1, h1, h2, fun o => by simp [World.frozen?, hg], fun j u hu => ?_, fun c u hu => ?_⟩
    · have hj := lt_of_some hu
      have hk : (n + 1) * k = n * k + k := by rw [Nat.add_mul]; omega
      rw [h9.cellAt j (by omega), List.getElem?_append_left hj]; exact hu
    · have hj := lt_of_some hu
      have hk : (n + 1) * k = n * k + k := by rw [Nat.add_mul]; omega
      rw [h9.cellAt _ (by omega), List.getElem?_append_right (by omega), show n * k + c - xs.length = c by omega]; exact hu
theorem cell_blk {w w' : World} {b : Nat} (h : w'.heap[b]? = w.heap[b]?) (o : Nat) : w'.cell? ⟨b, o, none⟩ = w.cell? ⟨b, o, none⟩ := World.cell?_of_block (w := w) h
/-- what the stores behind an append leave -/
structure MoreL (w9 w' : World) (g n : Nat) (a : Addr) (v : Value) (Tx : VT) (X Y : Value) : Prop where
  row : ∀ j, j < n * 5 → w'.cell? ⟨g, j, none⟩ = w9.cell? ⟨g, j, none⟩
  last : Node w' ⟨g, n * 5, none⟩ Tx X Y
  far : ∀ x, x ≠ g → x ≠ a.block → w'.heap[x]? = w9.heap[x]?
  acell : ∀ o, o ≠ a.off + 3 → w'.cell? ⟨a.block, o, none⟩ = w9.cell? ⟨a.block, o, none⟩
  anew : w'.cell? ⟨a.block, a.off + 3, none⟩ = some v
  size : w'.heap.size = w9.heap.size
  bel : ∀ B, B ≤ g → B ≤ a.block → Below B w9 w'
theorem moreL_a {w9 : World} {g n : Nat} {a : Addr} {v u : Value} {Tx T9 : VT} {X Y x9 y9 : Value} (hne : a.block ≠ g) (h3 : w9.cell? ⟨a.block, a.off + 3, none⟩ = some u) (hn : Node w9 ⟨g, n * 5, none⟩ T9 x9 y9) : MoreL w9 (put5 (w9.setCell ⟨a.block, a.off + 3, none⟩ v) g (n * 5) (.int .i64 Tx.kd) (.int .i64 Tx.nm) (.string Tx.st) X Y) g n a v Tx X Y where
  row := fun j hj => by rw [put5_other _ _ _ _ _ _ _ _ _ (by omega), set_other _ _ _ _ _ _ (.inl hne)]
  last := put5_at (a := ⟨g, n * 5, none⟩) (hn.eqs (Below.heap_setCell _ _ _ _ (show g ≠ (⟨a.block, a.off + 3, none⟩ : Addr).block from Ne.symm hne))) rfl Tx X Y
  far := fun x h1 h2 => by rw [put5_heap _ _ _ _ _ _ _ _ _ h1]; exact Below.heap_setCell _ _ _ _ h2
  acell := fun o ho => (cell_blk (put5_heap (w9.setCell ⟨a.block, a.off + 3, none⟩ v) g (n * 5) (.int .i64 Tx.kd) (.int .i64 Tx.nm) (.string Tx.st) X Y a.block hne) _).trans (set_other _ _ _ _ _ _ (.inr (Ne.symm ho)))
  anew := (cell_blk (put5_heap (w9.setCell ⟨a.block, a.off + 3, none⟩ v) g (n * 5) (.int .i64 Tx.kd) (.int .i64 Tx.nm) (.string Tx.st) X Y a.block hne) _).trans (World.cell?_setCell_same _ _ _ h3)
  size := by rw [put5_size]; simp
  bel := fun B h1 h2 => put5_bel ((Below.refl _ _).setCell (p := ⟨a.block, a.off + 3, none⟩) h2 _) h1
theorem moreL_b {w9 : World} {g n : Nat} {a : Addr} {v u : Value} {Tx T9 : VT} {X Y x9 y9 : Value} (hne : a.block ≠ g) (h3 : w9.cell? ⟨a.block, a.off + 3, none⟩ = some u) (hn : Node w9 ⟨g, n * 5, none⟩ T9 x9 y9) : MoreL w9 ((put5 w9 g (n * 5) (.int .i64 Tx.kd) (.int .i64 Tx.nm) (.string Tx.st) X Y).setCell ⟨a.block, a.off + 3, none⟩ v) g n a v Tx X Y where
  row := fun j hj => by rw [set_other _ _ _ _ _ _ (.inl hne), put5_other _ _ _ _ _ _ _ _ _ (by omega)]
  last := (put5_at (a := ⟨g, n * 5, none⟩) hn rfl Tx X Y).eqs (Below.heap_setCell _ _ _ _ (show g ≠ (⟨a.block, a.off + 3, none⟩ : Addr).block from Ne.symm hne))
  far := fun x h1 h2 => (Below.heap_setCell _ _ _ _ (show x ≠ (⟨a.block, a.off + 3, none⟩ : Addr).block from h2)).trans (put5_heap _ _ _ _ _ _ _ _ _ h1)
  acell := fun o ho => (set_other _ _ _ _ _ _ (.inr (Ne.symm ho))).trans (cell_blk (put5_heap w9 g (n * 5) (.int .i64 Tx.kd) (.int .i64 Tx.nm) (.string Tx.st) X Y a.block hne) _)
  anew := World.cell?_setCell_same _ _ _ ((cell_blk (put5_heap w9 g (n * 5) (.int .i64 Tx.kd) (.int .i64 Tx.nm) (.string Tx.st) X Y a.block hne) _).trans h3)
  size := by rw [← put5_size w9 g (n * 5) (.int .i64 Tx.kd) (.int .i64 Tx.nm) (.string Tx.st) X Y]; simp
  bel := fun B h1 h2 => (put5_bel (Below.refl _ _) h1).setCell (p := ⟨a.block, a.off + 3, none⟩) h2 _
theorem Hole.moreL {w w9 w' : World} {lo hi : Nat} {B : Addr} {T0 : VT} {p : List PStep} {a : Addr} {U : VT} {o3 : Option Addr} {y : Value} {la ha g cap : Nat} (h : Hole w lo hi B T0 p a U (.slice o3 U.ls.length U.ls.length) y la ha) (hlo : lo ≤ B.block) (hBs : B.block < w.heap.size) (hhi : hi ≤ w.heap.size)
    {Tx : VT} {X Y : Value} {Sx : Nat → Prop} (hx : HS w Sx Tx X Y) (hSx : ∀ k, Sx k → lo ≤ k ∧ k < w.heap.size ∧ ¬ (lo ≤ k ∧ k < hi) ∧ k ≠ B.block) (hb9 : Below w.heap.size w w9) (hg : w.heap.size ≤ g) (hg9 : g < w9.heap.size) (hc1 : U.ls.length + 1 ≤ cap) (hc2 : cap ≤ maxLen)
    (olds : List Value) (hlen : olds.length = U.ls.length * 5) (hold : ∀ b, o3 = some b → ∀ j u, olds[j]? = some u → w.cell? (b.add j) = some u) (hnew : ∀ j u, olds[j]? = some u → w9.cell? ⟨g, j, none⟩ = some u)
    (hm : MoreL w9 w' g U.ls.length a (.slice (some ⟨g, 0, none⟩) (U.ls.length + 1) cap) Tx X Y) :
    Below lo w w' ∧ ∃ X' Y', Node w' B (replP T0 p (addT U Tx)) X' Y' ∧ HS w' (fun k => lo ≤ k ∧ k < w'.heap.size) (replP T0 p (addT U Tx)) X' Y' := by
  have hab := h.ablock hlo hBs hhi
  have hw := h.tree.hv.wfs
  have hat := h.at_
  have hin := h.inn
  have hout := h.out
  have hs9 := hb9.size
  have hsz := hm.size
  have far : ∀ x, x < w.heap.size → x ≠ a.block → w'.heap[x]? = w.heap[x]? := fun x h1 h2 => (hm.far x (by omega) h2).trans (hb9.block x h1)
  have hne : ∀ k, Sx k → k ≠ a.block := fun k hk e => by
    have h3 := (hSx k hk).2.2
    rcases hat with hh | hh
    · exact h3.2 (by rw [← hh]; exact e)
    · exact h3.1 (by omega)
  have hpla := h.plain
  have hnode := h.node
  have htree := h.tree
  have hback := h.back
  clear h
  obtain ⟨k, n, st, L, K, V⟩ := U
  simp only [VT.ls] at *
  obtain ⟨m, hm1, hm2, hLF, hMF⟩ := htree.lists
  simp only [VT.ls, VT.ks, VT.vs] at hLF hMF
  have acells : ∀ o, o ≠ a.off + 3 → w'.cell? ⟨a.block, o, none⟩ = w.cell? ⟨a.block, o, none⟩ := fun o ho => (hm.acell o ho).trans (hb9.cell hab.2)
  refine ⟨(hb9.mono (by omega)).trans (hm.bel lo (by omega) hab.1), hback w' (fun k => lo ≤ k ∧ k < w'.heap.size) (.mk k n st (L ++ [Tx]) K V) (.slice (some ⟨g, 0, none⟩) (L.length + 1) cap) y ⟨fun k h1 h2 h3 h4 => far k (by omega) h3, fun hne => far _ hBs hne, fun o ho => acells o (by omega)⟩ (fun k h1 h2 => ⟨h1, by omega⟩) ?_ ?_⟩
  · obtain ⟨d0, d1, d2, d3, d4⟩ := hnode
    have ha := addr_is hpla
    refine ⟨?_, (acells _ (by omega)).trans d1, (acells _ (by omega)).trans d2, hm.anew, (acells _ (by omega)).trans d4⟩
    rw [ha] at d0 ⊢
    exact (acells _ (by omega)).trans d0
  · refine hs_of (T := .mk k n st (L ++ [Tx]) K V) hw (show LS _ _ (L ++ [Tx]) _ from ?_) (show MS _ _ K V y from ?_)
    · obtain ⟨b, l, f, g', ⟨o', hxe, hmax, ho⟩, h2, h3, h4, h5⟩ := hLF
      injection hxe with e1
      subst e1
      refine ⟨⟨g, 0, none⟩, fun j => if j < L.length then f j else X, fun j => if j < L.length then g' j else Y, ⟨_, _, by rw [List.length_append]; rfl, by rw [List.length_append]; exact hc1, hc2, fun _ => rfl⟩, fun _ => ⟨by show lo ≤ g; omega, by show g < w'.heap.size; omega⟩, fun j t ht => ?_, fun j t ht => ?_⟩
      · rw [add_at]
        by_cases hj : j < L.length
        · rw [List.getElem?_append_left hj] at ht
          simp only [if_pos hj]
          have h9 := h4 j t ht
          rw [add_at] at h9
          obtain ⟨ho, -⟩ := ho (by omega)
          have mv : ∀ c u, c < 5 → w.cell? ⟨b, j * 5 + c, none⟩ = some u → w'.cell? ⟨g, j * 5 + c, none⟩ = some u := fun c u hc hu => by
            rw [hm.row _ (by omega)]
            obtain ⟨u', hu'⟩ : ∃ u', olds[j * 5 + c]? = some u' := ⟨olds[j * 5 + c]'(by omega), List.getElem?_eq_getElem _⟩
            have q1 := hold _ ho _ _ hu'
            rw [add_at, hu] at q1
            rw [hnew _ _ hu', ← q1]
          obtain ⟨d0, d1, d2, d3, d4⟩ := h9
          exact ⟨mv 0 _ (by decide) d0, mv 1 _ (by decide) d1, mv 2 _ (by decide) d2, mv 3 _ (by decide) d3, mv 4 _ (by decide) d4⟩
        · have hj2 : j = L.length := by have := lt_of_some ht; simp at this; omega
          subst hj2
          simp at ht
          subst ht
          simp only [Nat.lt_irrefl, if_false]
          exact hm.last
      · by_cases hj : j < L.length
        · rw [List.getElem?_append_left hj] at ht
          simp only [if_pos hj]
          have g0 := h2 (by omega)
          have e2 := h3 0 j (Nat.zero_le _) (by omega); have e3 := h3 (j + 1) _ hj (Nat.le_refl _)
          exact ((h5 j t ht).onto (w' := w') (fun k k1 k2 => far k (by omega) (fun e => hout (by omega)))).hs.onto (fun _ _ => rfl) (fun k hk => ⟨by omega, by omega⟩)
        · have hj2 : j = L.length := by have := lt_of_some ht; simp at this; omega
          subst hj2
          simp at ht
          subst ht
          simp only [Nat.lt_irrefl, if_false]
          exact hx.onto (fun k hk => far k (hSx k hk).2.1 (hne k hk)) (fun k hk => ⟨(hSx k hk).1, by have := (hSx k hk).2.1; omega⟩)
    · exact hMF.ms.onto (fun k hk => far k (by omega) (fun e => hout (by omega))) (fun k hk => ⟨by omega, by omega⟩)
end Go.Proofs.YtjcejjejlekelaaGreatDoor
namespace Go.Proofs.YtjcejjejlekelaaGreatDoor
open Go.RowKit

set_option maxRecDepth 100000 in
set_option maxHeartbeats 16000000 in
theorem put_last {w : World} {lo hi : Nat} {B : Addr} {T0 : VT} {p : List PStep} {a : Addr} {U : VT} {x y : Value} {la ha : Nat} (h : Hole w lo hi B T0 p a U x y la ha) (hB : ¬ (lo ≤ B.block ∧ B.block < hi)) (hlo : lo ≤ B.block) (hBs : B.block < w.heap.size) (hhi : hi ≤ w.heap.size) (hm : szT U ≤ 1000000) (s : PStep) (hsk : s.key.size ≤ maxLen) {Tx : VT} {X Y : Value} {Sx : Nat → Prop} (hx : HS w Sx Tx X Y) (hSx : ∀ k, Sx k → lo ≤ k ∧ k < w.heap.size ∧ ¬ (lo ≤ k ∧ k < hi) ∧ k ≠ B.block) (hix : idxT U s = none) (hp : s.place = true) (hk5 : U.kd = 5) (hat : s.at_ = U.ls.length) :
    Calls Tryz.prog 39 #[.pointer (some a), pv s, vv Tx X Y] w fun e w' => e = .returned (.bool true) ∧ Below lo w w' ∧ ∃ X' Y', Node w' B (replP T0 p (addT U Tx)) X' Y' ∧ HS w' (fun k => lo ≤ k ∧ k < w'.heap.size) (replP T0 p (addT U Tx)) X' Y' := by
  have hgp : getP U [s] = none := by simp [getP, hix]
  obtain ⟨o1, n1, c1, o2, n2, c2, rfl, rfl⟩ := hv_slices hx.hv
  obtain ⟨o3, n3, c3, o4, n4, c4, rfl, rfl⟩ := hv_slices h.tree.hv
  have hb0 : Below w.heap.size w (((w.alloc (.cells #[.string s.key, .int .i64 s.at_, .bool s.place] 36)).alloc (.cells #[.int .i64 Tx.kd, .int .i64 Tx.nm, .string Tx.st, .slice o1 n1 c1, .slice o2 n2 c2] 31)).alloc (.cells #[.string s.key, .int .i64 s.at_, .bool s.place] 36)) := valloc_bel (valloc_bel (valloc_bel (Below.refl _ _) _) _) _
  have hin := inp_new ((w.alloc (.cells #[.string s.key, .int .i64 s.at_, .bool s.place] 36)).alloc (.cells #[.int .i64 Tx.kd, .int .i64 Tx.nm, .string Tx.st, .slice o1 n1 c1, .slice o2 n2 c2] 31)) s hsk
  rw [show ((w.alloc (.cells #[.string s.key, .int .i64 s.at_, .bool s.place] 36)).alloc (.cells #[.int .i64 Tx.kd, .int .i64 Tx.nm, .string Tx.st, .slice o1 n1 c1, .slice o2 n2 c2] 31)).heap.size = w.heap.size + 2 by simp] at hin
  have h0 := h.onto hlo hBs hhi hb0
  have CF := hid (find_of (fun q => QH _ lo hi B T0 (p ++ q)) _ (QH.desc2 _ lo hi B T0 p hB) a U _ _ ⟨⟨la, ha, by rw [List.append_nil]; exact h0⟩, hm⟩ [s] _ hin)
  have HB0 := hid hb0
  have HGP := hid hgp
  have h5 : ∀ o u, [Value.int .i64 Tx.kd, .int .i64 Tx.nm, .string Tx.st, .slice o1 n1 c1, .slice o2 n2 c2][o]? = some u → (((w.alloc (.cells #[.string s.key, .int .i64 s.at_, .bool s.place] 36)).alloc (.cells #[.int .i64 Tx.kd, .int .i64 Tx.nm, .string Tx.st, .slice o1 n1 c1, .slice o2 n2 c2] 31)).alloc (.cells #[.string s.key, .int .i64 s.at_, .bool s.place] 36)).cell? ⟨w.heap.size + 1, o, none⟩ = some u := fun o u hu => by
    have h1 := new_cells (w.alloc (.cells #[.string s.key, .int .i64 s.at_, .bool s.place] 36)) [Value.int .i64 Tx.kd, .int .i64 Tx.nm, .string Tx.st, .slice o1 n1 c1, .slice o2 n2 c2] 31 o u hu
    rw [World.size_alloc, add_at] at h1
    exact keepCell (valloc_bel (Below.refl _ _) _) h1
  have h3 : ∀ o u, [Value.string s.key, .int .i64 s.at_, .bool s.place][o]? = some u → (((w.alloc (.cells #[.string s.key, .int .i64 s.at_, .bool s.place] 36)).alloc (.cells #[.int .i64 Tx.kd, .int .i64 Tx.nm, .string Tx.st, .slice o1 n1 c1, .slice o2 n2 c2] 31)).alloc (.cells #[.string s.key, .int .i64 s.at_, .bool s.place] 36)).cell? ⟨w.heap.size, o, none⟩ = some u := fun o u hu => by
    have h1 := new_cells w [Value.string s.key, .int .i64 s.at_, .bool s.place] 36 o u hu
    rw [add_at] at h1
    exact keepCell (valloc_bel (valloc_bel (Below.refl _ _) _) _) h1
  have H5 := hid h5
  have H3 := hid h3
  have HN := hid h.node
  have HX := hid hx
  have HSX := hid hSx
  have HH := hid h
  have hlU := szT_len U
  obtain ⟨m, -, -, hLF, -⟩ := h.tree.lists
  have hrow := row_olds hLF
  have HROW := hid hrow
  have hsoft := h.soft
  have hab := h.ablock hlo hBs hhi
  have hpla := h.plain
  have n3e : n3 = U.ls.length := by
    obtain ⟨_, _, _, _, _, _, _, _, _, _, e, -⟩ := h.tree.hv.parts
    injection e
  clear h h0 hx hSx hb0 hLF hrow hin hgp h5 h3 hix
  obtain ⟨key, at_, pl⟩ := s
  simp only [vv, pv]
  simp only at CF HB0 H5 H3 hp hat
  subst hp hat n3e
  go_enter Tryz.func39, Tryz.ntmps39
  go_wp2_with fail
  go_at_call 37
  refine CF.out.mono ?_
  rintro e w1 ⟨hc, hb1⟩
  rcases hc with ⟨-, rfl⟩ | ⟨a', U', x', y', ⟨⟨la', ha', hh⟩, -⟩, hg, -⟩
  rotate_left
  · rw [HGP.out] at hg; cases hg
  dsimp only
  have HB1 := hid (vonto HB0.out hb1)
  obtain ⟨d0, d1, d2, d3, d4⟩ := HN.out.onto HB1.out
  have v0 := keepCell hb1 (H5.out 0 _ rfl)
  have v1 := keepCell hb1 (H5.out 1 _ rfl)
  have v2 := keepCell hb1 (H5.out 2 _ rfl)
  have v3 := keepCell hb1 (H5.out 3 _ rfl)
  have v4 := keepCell hb1 (H5.out 4 _ rfl)
  have b1 := keepCell hb1 (H3.out 1 _ rfl)
  have b2 := keepCell hb1 (H3.out 2 _ rfl)
  have hsq := hb1.size
  simp only [World.size_alloc] at hsq
  have hq1 : w.heap.size + 1 ≠ w1.heap.size := by omega
  have hq2 : a.block ≠ w1.heap.size := by omega
  have hq3 : w1.heap.size ≠ w.heap.size + 1 := by omega
  have hq4 : w1.heap.size ≠ a.block := by omega
  clear hb1 CF H5 H3 HGP HN hsq
  have t5 : (U.kd == 5) = true := by simpa using hk5
  obtain ⟨i1, hi', hz0', hz1', hz2'⟩ := info_parts Tryz.infoVal
  obtain ⟨c3e, hnone, olds, hlen, hone, hcell⟩ := HROW.out
  subst c3e
  have HCL := hid (fun (X : World) (hX : Below w.heap.size w X) => show ∀ b, o3 = some b → ∀ j u, olds[j]? = some u → X.cell? (b.add j) = some u from fun b hb j u hu => keepCell hX (hcell b hb j u hu))
  have HOLD := hid hcell
  clear hcell hone HROW
  go_wp2_with fail
  go_region
  go_wp2_with fail
  have hbz : Below w1.heap.size w1 (w1.drew.drew.alloc (.cells #[.int .i64 0, .int .i64 0, .string ⟨#[]⟩, .slice none 0 0, .slice none 0 0] 31)) := valloc_bel (Below.refl w1.heap.size w1).drew.drew _
  have HCX := hid (HCL.out _ (vonto HB1.out hbz))
  have HNEW := hid (new_cells w1.drew.drew [.int .i64 0, .int .i64 0, .string ⟨#[]⟩, .slice none 0 0, .slice none 0 0] 31)
  have hHL := hid hlen
  have hHN := hid hnone
  have HA := hid (show ∀ (w9 : World) (g9 : Nat), (w1.drew.drew.alloc (.cells #[.int .i64 0, .int .i64 0, .string ⟨#[]⟩, .slice none 0 0, .slice none 0 0] 31)).grownBy w9 none → (w1.drew.drew.alloc (.cells #[.int .i64 0, .int .i64 0, .string ⟨#[]⟩, .slice none 0 0, .slice none 0 0] 31)).heap.size ≤ g9 → a.block ≠ g9 ∧ w9.cell? ⟨a.block, a.off + 3, none⟩ = some (.slice o3 U.ls.length U.ls.length) ∧ w9.frozen? ⟨a.block, a.off + 3, none⟩ = false from fun w9 g9 hgr hle => by
    have hl1 := HB1.out.size
    have hl2 := hbz.size
    have hbl : w9.heap[a.block]? = w1.heap[a.block]? := (hgr.block a.block (by omega) (by simp)).trans (hbz.block _ (by omega))
    refine ⟨by omega, by rw [World.cell?_of_block (w := w1) (show w9.heap[(⟨a.block, a.off + 3, none⟩ : Addr).block]? = _ from hbl)]; exact d3, ?_⟩
    have := hsoft (a.off + 3)
    have e1 : w9.heap[a.block]? = w.heap[a.block]? := hbl.trans (HB1.out.block _ hab.2)
    simpa [World.frozen?, e1] using this)
  clear HCL hbz hlen hnone
  have y0 := keepCell (valloc_bel (Below.refl w1.heap.size w1) (.cells #[.int .i64 0, .int .i64 0, .string ⟨#[]⟩, .slice none 0 0, .slice none 0 0] 31)) v0
  have y1 := keepCell (valloc_bel (Below.refl w1.heap.size w1) (.cells #[.int .i64 0, .int .i64 0, .string ⟨#[]⟩, .slice none 0 0, .slice none 0 0] 31)) v1
  have y2 := keepCell (valloc_bel (Below.refl w1.heap.size w1) (.cells #[.int .i64 0, .int .i64 0, .string ⟨#[]⟩, .slice none 0 0, .slice none 0 0] 31)) v2
  have y3 := keepCell (valloc_bel (Below.refl w1.heap.size w1) (.cells #[.int .i64 0, .int .i64 0, .string ⟨#[]⟩, .slice none 0 0, .slice none 0 0] 31)) v3
  have y4 := keepCell (valloc_bel (Below.refl w1.heap.size w1) (.cells #[.int .i64 0, .int .i64 0, .string ⟨#[]⟩, .slice none 0 0, .slice none 0 0] 31)) v4
  have y5 := keepCell (valloc_bel (Below.refl w1.heap.size w1) (.cells #[.int .i64 0, .int .i64 0, .string ⟨#[]⟩, .slice none 0 0, .slice none 0 0] 31)) d3
  have HFIN := hid (show ∀ (w9 : World) (g9 cap9 : Nat), (w1.drew.drew.alloc (.cells #[.int .i64 0, .int .i64 0, .string ⟨#[]⟩, .slice none 0 0, .slice none 0 0] 31)).grownBy w9 none → (w1.drew.drew.alloc (.cells #[.int .i64 0, .int .i64 0, .string ⟨#[]⟩, .slice none 0 0, .slice none 0 0] 31)).heap.size ≤ g9 → g9 < w9.heap.size → U.ls.length + 1 ≤ cap9 → cap9 ≤ maxLen → (∀ j u, olds[j]? = some u → w9.cell? ⟨g9, j, none⟩ = some u) → ∀ w', MoreL w9 w' g9 U.ls.length a (.slice (some ⟨g9, 0, none⟩) (U.ls.length + 1) cap9) Tx (.slice o1 n1 c1) (.slice o2 n2 c2) → Below lo w w' ∧ ∃ X' Y', Node w' B (replP T0 p (addT U Tx)) X' Y' ∧ HS w' (fun k => lo ≤ k ∧ k < w'.heap.size) (replP T0 p (addT U Tx)) X' Y' from fun w9 g9 cap9 hgr hle hlt9 hc1 hc2 hxs w' hmo => by
    have hl1 := HB1.out.size
    simp at hle
    have hb9 : Below w.heap.size w w9 := (valloc_bel HB1.out.drew.drew _).grown hgr (by simp; omega) (fun q hq => by simp at hq)
    exact HH.out.moreL hlo hBs hhi HX.out HSX.out hb9 (by omega) hlt9 hc1 hc2 olds hHL.out HOLD.out hxs hmo)
  have hii : (U.ls.length : Int) < (U.ls.length : Int) + 1 := by omega
  go_region_law (refine step_append_grows rfl (.tmp 40) (.tmp 43) 28 rfl 31 i1 (.agg #[.int .i64 0, .int .i64 0, .string ⟨#[]⟩, .slice none 0 0, .slice none 0 0]) 5 80 Tryz.underlying28 hi' hz0' hz1' hz2' rfl (by decide) o3 U.ls.length U.ls.length olds (by rfl) hHN.out hHL.out HCX.out ⟨w1.heap.size, 0, none⟩ 1 1 [.int .i64 0, .int .i64 0, .string ⟨#[]⟩, .slice none 0 0, .slice none 0 0] (by rfl) rfl HNEW.out (by intro u hu; simp at hu; rcases hu with rfl | rfl | rfl | rfl | rfl <;> rfl) (by omega) (by unfold maxLen; omega) (by omega) ?_; intro v9 w9 hown9 hgr9; obtain ⟨g9, cap9, rfl, hg9, hgl9, hcp9, hcm9, hzf9, hxs9, hzs9⟩ := own_new hown9 hHL.out rfl; have r0 := hzs9 0 _ rfl; rw [Nat.add_zero] at r0; have r1 := hzs9 1 _ rfl; have r2 := hzs9 2 _ rfl; have r3 := hzs9 3 _ rfl; have r4 := hzs9 4 _ rfl; obtain ⟨ne9, x3, xf⟩ := HA.out w9 g9 hgr9 hg9; have HX9 := hid hxs9; have HG9 := hid hgr9; clear hown9 hgr9 hxs9 hzs9)
  all_goals
    have hf := HFIN.out w9 g9 cap9 HG9.out hg9 hgl9 hcp9 hcm9 HX9.out
    have HF9 := hid hf
    have hnd : Node w9 ⟨g9, U.ls.length * 5, none⟩ zeroT (.slice none 0 0) (.slice none 0 0) := ⟨r0, r1, r2, r3, r4⟩
    have hm1 := moreL_a (v := .slice (some ⟨g9, 0, none⟩) (U.ls.length + 1) cap9) (Tx := Tx) (X := .slice o1 n1 c1) (Y := .slice o2 n2 c2) ne9 x3 hnd
    have hm2 := moreL_b (v := .slice (some ⟨g9, 0, none⟩) (U.ls.length + 1) cap9) (Tx := Tx) (X := .slice o1 n1 c1) (Y := .slice o2 n2 c2) ne9 x3 hnd
    unfold put5 at hm1 hm2
    have HM1 := hid hm1
    have HM2 := hid hm2
    clear hf hnd hm1 hm2 HA HFIN HX9 HG9 HNEW HCX HOLD hHL hHN HX HSX HH y0 y1 y2 y3 y4 y5 v0 v1 v2 v3 v4 d0 d1 d2 d3 d4 b1 b2
    go_wp2_with fail
    go_ret
    refine ⟨rfl, ?_⟩
    first
      | with_reducible exact HF9.out _ HM1.out
      | with_reducible exact HF9.out _ HM2.out
end Go.Proofs.YtjcejjejlekelaaGreatDoor
