import Derived.Test.YtapclgjaalammaaCrJ
/- The statements of stage 13: what they ask first; rows held against rows. -/
namespace Go.Proofs.Ytapclgjaalammaa
open Go.RowKit

theorem crow_at {w : World} {base : Nat} {v : Value} {l : List (List UInt8)} (h : w.ownsRow base 9 1 v l.length (fvs l)) : ∃ o cap, v = .slice o l.length cap ∧ l.length ≤ cap ∧ ∀ (j : Nat) p, l[j]? = some p → ∃ g, o = some ⟨g, 0, none⟩ ∧ w.cell? ⟨g, j, none⟩ = some (.string (mkS p)) := by
  rcases h with ⟨h0, ⟨rfl, h1⟩ | ⟨g, cap, cur, rfl, hb, hg, hn, h2⟩⟩
  · refine ⟨none, 0, by rw [h1], by omega, fun j p hj => ?_⟩
    have := (List.getElem?_eq_some_iff.1 hj).1
    omega
  · have hh : w.ownsRow base 9 1 (.slice (some ⟨g, 0, none⟩) l.length cap) l.length (fvs l) := ⟨h0, Or.inr ⟨g, cap, cur, rfl, hb, hg, hn, h2⟩⟩
    refine ⟨_, cap, rfl, hn, fun j p hj => ⟨g, rfl, ?_⟩⟩
    have hlt := (List.getElem?_eq_some_iff.1 hj).1
    rw [hh.cellAt j (by omega), fvs, List.getElem?_map, hj]; rfl
theorem crows_at {W : World} {base : Nat} {u : Value} {E : List (List (List UInt8) × Value)} (h : Rws W base u E) : ∃ o cap, u = .slice o E.length cap ∧ E.length ≤ cap ∧ ∀ (j : Nat) e, E[j]? = some e → ∃ g, o = some ⟨g, 0, none⟩ ∧ W.cell? ⟨g, j, none⟩ = some e.2 := by
  have hown := h.own
  rcases hown with ⟨h0, ⟨rfl, h1⟩ | ⟨g, cap, cur, rfl, hb, hg, hn, h2⟩⟩
  · refine ⟨none, 0, by rw [h1], by omega, fun j p hj => ?_⟩
    have := (List.getElem?_eq_some_iff.1 hj).1
    omega
  · refine ⟨_, cap, rfl, hn, fun j p hj => ⟨g, rfl, ?_⟩⟩
    have hlt := (List.getElem?_eq_some_iff.1 hj).1
    rw [h.own.cellAt j (by omega), List.getElem?_map, hj]; rfl
set_option maxRecDepth 100000 in
set_option maxHeartbeats 4000000 in
theorem ctexts_same (l : List (List UInt8)) (o o' : Option Addr) (cap cap' : Nat) (w : World) (hl : l.length ≤ 1000000)
    (h : ∀ (j : Nat) p, l[j]? = some p → ∃ g, o = some ⟨g, 0, none⟩ ∧ w.cell? ⟨g, j, none⟩ = some (.string (mkS p)))
    (h' : ∀ (j : Nat) p, l[j]? = some p → ∃ g, o' = some ⟨g, 0, none⟩ ∧ w.cell? ⟨g, j, none⟩ = some (.string (mkS p))) :
    Calls Try.prog 22 #[.slice o l.length cap, .slice o' l.length cap'] w fun e w' => e = .returned (.bool true) ∧ ∃ n, w' = w.drewN n := by
  have H1 := hid h
  have H2 := hid h'
  clear h h'
  obtain ⟨n, hn⟩ : ∃ n, l.length = n := ⟨_, rfl⟩
  have HN := hid hn
  rw [hn] at hl ⊢
  clear hn
  go_enter Try.func22, Try.ntmps22
  go_wp2_with fail
  go_loopw [5] (fun x wr => ∃ k : Nat, k ≤ n ∧ x = .int .i64 (k : Int) ∧ Hid (∃ m, wr = w.drewN m)) (fun x _ => n - (intOf x).toNat)
  case atStart => exact ⟨0, Nat.zero_le _, rfl, ⟨0, rfl⟩⟩
  case round =>
    obtain ⟨k, hk, rfl, HB⟩ := hrel
    by_cases hlt : k < n
    · obtain ⟨p, hp⟩ : ∃ p, l[k]? = some p := ⟨_, List.getElem?_eq_getElem (by rw [HN.out]; exact hlt)⟩
      obtain ⟨g, rfl, c1⟩ := H1.out k p hp
      obtain ⟨g', rfl, c2⟩ := H2.out k p hp
      have hbl : Below w.heap.size w wr := by obtain ⟨m, rfl⟩ := HB.out; exact below_drewN (Below.refl _ _) m
      replace c1 := keepCell hbl c1
      replace c2 := keepCell hbl c2
      generalize mkS p = m at *
      clear hp hbl
      go_wp2_with fail
      go_quiet (fail)
      go_wp2_with fail
      go_round
      case rel => exact ⟨k + 1, hlt, val_int (by omega), by obtain ⟨m, rfl⟩ := HB.out; exact ⟨_, World.drewN_drewN _ _ _⟩⟩
      case measure => simp [intOf]; omega
    · go_wp2_with fail
      go_ret
      exact ⟨rfl, HB.out⟩
theorem ctexts_own (l : List (List UInt8)) (v v' : Value) (b b' : Nat) (w : World) (hl : l.length ≤ 1000000) (h : w.ownsRow b 9 1 v l.length (fvs l)) (h' : w.ownsRow b' 9 1 v' l.length (fvs l)) :
    Calls Try.prog 22 #[v, v'] w fun e w' => e = .returned (.bool true) ∧ ∃ n, w' = w.drewN n := by
  obtain ⟨o, c, rfl, -, h1⟩ := crow_at h
  obtain ⟨o', c', rfl, -, h2⟩ := crow_at h'
  exact ctexts_same l o o' c c' w hl h1 h2
set_option maxRecDepth 100000 in
set_option maxHeartbeats 4000000 in
theorem crows_same (E E' : List (List (List UInt8) × Value)) (u u' : Value) (b b' : Nat) (w : World) (hl : E.length ≤ 1000000) (hr : ∀ e ∈ E, e.1.length ≤ 1000000) (h : Rws w b u E) (h' : Rws w b' u' E') (he : E.map (·.1) = E'.map (·.1)) :
    Calls Try.prog 13 #[u, u'] w fun e w' => e = .returned (.bool true) ∧ Below w.heap.size w w' := by
  have hlen : E'.length = E.length := by have := congrArg List.length he; simpa using this.symm
  have HC : Hid (∀ (k : Nat) e e' (X : World), Below w.heap.size w X → E[k]? = some e → E'[k]? = some e' → Calls Try.prog 22 #[e.2, e'.2] X fun x w' => x = .returned (.bool true) ∧ ∃ n, w' = X.drewN n) := hid (fun k e e' X hX h1 h2 => by
    have g1 := h.rows e (List.mem_of_getElem? h1)
    have g2 := h'.rows e' (List.mem_of_getElem? h2)
    have ee : e.1 = e'.1 := by
      have := congrArg (fun l => l[k]?) he
      simp only [List.getElem?_map, h1, h2, Option.map_some, Option.some.injEq] at this
      exact this
    rw [← ee] at g2
    exact ctexts_own e.1 e.2 e'.2 b b' X (hr e (List.mem_of_getElem? h1)) (ownsRow_below g1 hX) (ownsRow_below g2 hX))
  obtain ⟨o, c, rfl, hc1, h1⟩ := crows_at h
  obtain ⟨o', c', rfl, hc2, h2⟩ := crows_at h'
  rw [hlen] at hc2 ⊢
  have H1 := hid h1
  have H2 := hid h2
  have HL := hid hlen
  have HSH : Hid (∀ (k : Nat) e, E[k]? = some e → ∃ o n c, e.2 = .slice o n c) := hid (fun k e hk => by obtain ⟨o, c, hh⟩ := slice_shape (h.rows e (List.mem_of_getElem? hk)); exact ⟨_, _, _, hh⟩)
  have HSH' : Hid (∀ (k : Nat) e, E'[k]? = some e → ∃ o n c, e.2 = .slice o n c) := hid (fun k e hk => by obtain ⟨o, c, hh⟩ := slice_shape (h'.rows e (List.mem_of_getElem? hk)); exact ⟨_, _, _, hh⟩)
  obtain ⟨n, hn⟩ : ∃ n, E.length = n := ⟨_, rfl⟩
  have HN := hid hn
  rw [hn] at hl hc1 hc2 ⊢
  clear hn h h' he h1 h2 hlen hr
  go_enter Try.func13, Try.ntmps13
  go_wp2_with fail
  go_loopw [5] (fun x wr => ∃ k : Nat, k ≤ n ∧ x = .int .i64 (k : Int) ∧ Hid (Below w.heap.size w wr)) (fun x _ => n - (intOf x).toNat)
  case atStart => exact ⟨0, Nat.zero_le _, rfl, Below.refl _ _⟩
  case round =>
    obtain ⟨k, hk, rfl, HB⟩ := hrel
    by_cases hlt : k < n
    · obtain ⟨p, hp⟩ : ∃ p, E[k]? = some p := ⟨_, List.getElem?_eq_getElem (by rw [HN.out]; exact hlt)⟩
      obtain ⟨p', hp'⟩ : ∃ p, E'[k]? = some p := ⟨_, List.getElem?_eq_getElem (by rw [HL.out, HN.out]; exact hlt)⟩
      obtain ⟨g, rfl, c1⟩ := H1.out k p hp
      obtain ⟨g', rfl, c2⟩ := H2.out k p' hp'
      replace c1 := keepCell HB.out c1
      replace c2 := keepCell HB.out c2
      have CT := hid (fun m => HC.out k p p' (wr.drewN m) (below_drewN HB.out m) hp hp')
      obtain ⟨x1, x2, x3, hx⟩ := HSH.out k p hp
      obtain ⟨y1, y2, y3, hy⟩ := HSH'.out k p' hp'
      rw [hx] at c1 CT
      rw [hy] at c2 CT
      have CT' : Hid (∀ m, Calls Try.prog 22 #[.slice x1 x2 x3, .slice y1 y2 y3] (wr.drewN m) fun x w' => x = .returned (.bool true) ∧ ∃ n, w' = wr.drewN n) := hid (fun m => (CT.out m).mono (by rintro e w5 ⟨rfl, q, rfl⟩; exact ⟨rfl, _, World.drewN_drewN _ _ _⟩))
      clear hp hp' hx hy CT
      go_wp2_with fail
      go_quiet ((go_at_call 22; exact CT'.out _))
      go_wp2_with fail
      go_round
      case rel => exact ⟨k + 1, hlt, val_int (by omega), below_drewN HB.out _⟩
      case measure => simp [intOf]; omega
    · go_wp2_with fail
      go_ret
      exact ⟨rfl, HB.out⟩
end Go.Proofs.Ytapclgjaalammaa
