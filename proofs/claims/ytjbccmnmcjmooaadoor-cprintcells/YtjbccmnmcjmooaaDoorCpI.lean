import Derived.Test.YtjbccmnmcjmooaaDoorCpH
import Derived.Test.YtjbccmnmcjmooaaDoorCrJ
/- The statements of stage 14: rows held against rows; how great they are. -/
namespace Go.Proofs.YtjbccmnmcjmooaaDoor
open Go.RowKit

/-- strings that lie in memory -/
def CS (w : World) (ks : List ByteArray) (v : Value) : Prop := ∃ (a : Addr) (o : Option Addr) (cap : Nat), v = .slice o ks.length cap ∧ ks.length ≤ cap ∧ (0 < ks.length → o = some a) ∧ ∀ i c, ks[i]? = some c → w.cell? (a.add i) = some (.string c)
theorem InS.cs {w : World} {ks : List ByteArray} {v : Value} (h : InS w ks v) : CS w ks v := by
  obtain ⟨a, ⟨o, cap, rfl, h1, -, h3⟩, h4⟩ := h
  exact ⟨a, o, cap, rfl, h1, h3, fun i c hc => (h4 i c hc).1⟩
theorem CS.onto {w w' : World} {ks : List ByteArray} {v : Value} (h : CS w ks v) (hb : Below w.heap.size w w') : CS w' ks v := by
  obtain ⟨a, o, cap, rfl, h1, h2, h3⟩ := h
  exact ⟨a, o, cap, rfl, h1, h2, fun i c hc => keepCell hb (h3 i c hc)⟩
theorem CS.shape {w : World} {ks : List ByteArray} {u : Value} (h : CS w ks u) : ∃ ou nu cu, u = .slice ou nu cu := by
  obtain ⟨_, ou, cu, e, -⟩ := h
  exact ⟨ou, _, cu, e⟩
/-- rows that lie in memory -/
def CRw (w : World) (rows : List (List ByteArray)) (v : Value) : Prop := ∃ (a : Addr) (o : Option Addr) (cap : Nat), v = .slice o rows.length cap ∧ rows.length ≤ cap ∧ (0 < rows.length → o = some a) ∧ ∀ i ks, rows[i]? = some ks → ∃ u, w.cell? (a.add i) = some u ∧ CS w ks u
theorem InR.cr {w : World} {rows : List (List ByteArray)} {v : Value} (h : InR w rows v) : CRw w rows v := by
  obtain ⟨a, ⟨o, cap, rfl, h1, -, h3⟩, h4⟩ := h
  exact ⟨a, o, cap, rfl, h1, h3, fun i c hc => let ⟨u, g1, g2⟩ := h4 i c hc; ⟨u, g1, g2.cs⟩⟩
theorem CRw.onto {w w' : World} {rows : List (List ByteArray)} {v : Value} (h : CRw w rows v) (hb : Below w.heap.size w w') : CRw w' rows v := by
  obtain ⟨a, o, cap, rfl, h1, h2, h3⟩ := h
  exact ⟨a, o, cap, rfl, h1, h2, fun i c hc => let ⟨u, g1, g2⟩ := h3 i c hc; ⟨u, keepCell hb g1, g2.onto hb⟩⟩
theorem cs_own {w : World} {base : Nat} {v : Value} {l : List (List UInt8)} (h : w.ownsRow base 9 1 v l.length (fvs l)) : CS w (l.map mkS) v := by
  rcases h with ⟨h0, ⟨rfl, h1⟩ | ⟨g, cap, cur, rfl, hb, hg, hn, h2⟩⟩
  · refine ⟨⟨0, 0, none⟩, none, 0, by rw [List.length_map, h1], by rw [List.length_map]; omega, fun hp => by rw [List.length_map] at hp; omega, fun j p hj => ?_⟩
    have := (List.getElem?_eq_some_iff.1 hj).1
    rw [List.length_map] at this
    omega
  · have hh : w.ownsRow base 9 1 (.slice (some ⟨g, 0, none⟩) l.length cap) l.length (fvs l) := ⟨h0, Or.inr ⟨g, cap, cur, rfl, hb, hg, hn, h2⟩⟩
    refine ⟨⟨g, 0, none⟩, _, cap, by rw [List.length_map], by rw [List.length_map]; exact hn, fun _ => rfl, fun j p hj => ?_⟩
    rw [List.getElem?_map] at hj
    cases hl : l[j]? with
    | none => rw [hl] at hj; simp at hj
    | some q =>
      rw [hl] at hj
      simp only [Option.map_some, Option.some.injEq] at hj
      have hlt := (List.getElem?_eq_some_iff.1 hl).1
      rw [add_at, hh.cellAt j (by omega), fvs, List.getElem?_map, hl, ← hj]; rfl
theorem cr_own {W : World} {base : Nat} {u : Value} {E : List (List (List UInt8) × Value)} (h : Rws W base u E) : CRw W (E.map (fun e => e.1.map mkS)) u := by
  have hown := h.own
  rcases hown with ⟨h0, ⟨rfl, h1⟩ | ⟨g, cap, cur, rfl, hb, hg, hn, h2⟩⟩
  · refine ⟨⟨0, 0, none⟩, none, 0, by rw [List.length_map, h1], by rw [List.length_map]; omega, fun hp => by rw [List.length_map] at hp; omega, fun j p hj => ?_⟩
    have := (List.getElem?_eq_some_iff.1 hj).1
    rw [List.length_map] at this
    omega
  · refine ⟨⟨g, 0, none⟩, _, cap, by rw [List.length_map], by rw [List.length_map]; exact hn, fun _ => rfl, fun j p hj => ?_⟩
    rw [List.getElem?_map] at hj
    cases hl : E[j]? with
    | none => rw [hl] at hj; simp at hj
    | some q =>
      rw [hl] at hj
      simp only [Option.map_some, Option.some.injEq] at hj
      have hlt := (List.getElem?_eq_some_iff.1 hl).1
      refine ⟨q.2, ?_, ?_⟩
      · rw [add_at, h.own.cellAt j (by omega), List.getElem?_map, hl]; rfl
      · rw [← hj]; exact cs_own (h.rows q (List.mem_of_getElem? hl))
theorem rb_back (rows : List (List ByteArray)) (E : List (List (List UInt8) × Value)) (h : E.map (·.1) = rb rows) : E.map (fun e => e.1.map mkS) = rows := by
  have : E.map (fun e => e.1.map mkS) = (E.map (·.1)).map (fun l => l.map mkS) := by rw [List.map_map]; rfl
  rw [this, h]
  unfold rb
  rw [List.map_map]
  conv => rhs; rw [← List.map_id rows]
  refine List.map_congr_left fun ks _ => ?_
  show (ks.map (·.data.toList)).map mkS = ks
  rw [List.map_map]
  conv => rhs; rw [← List.map_id ks]
  refine List.map_congr_left fun s _ => ?_
  show mkS s.data.toList = s
  exact (mkS_of s _ rfl).symm
set_option maxRecDepth 100000 in
set_option maxHeartbeats 4000000 in
theorem ptexts_same (ks : List ByteArray) (v v' : Value) (w : World) (hl : ks.length ≤ 1000000) (h : CS w ks v) (h' : CS w ks v') :
    Calls Tryd.prog 28 #[v, v'] w fun e w' => e = .returned (.bool true) ∧ ∃ n, w' = w.drewN n := by
  obtain ⟨a, o, cap, rfl, h1, h2, h3⟩ := h
  obtain ⟨a', o', cap', rfl, h1', h2', h3'⟩ := h'
  have H1 := hid h3
  have H2 := hid h3'
  clear h3 h3'
  obtain ⟨n, hn⟩ : ∃ n, ks.length = n := ⟨_, rfl⟩
  have HN := hid hn
  rw [hn] at hl h1 h1' h2 h2' ⊢
  clear hn
  go_enter Tryd.func28, Tryd.ntmps28
  go_wp2_with fail
  go_loopw [5] (fun x wr => ∃ k : Nat, k ≤ n ∧ x = .int .i64 (k : Int) ∧ Hid (∃ m, wr = w.drewN m)) (fun x _ => n - (intOf x).toNat)
  case atStart => exact ⟨0, Nat.zero_le _, rfl, ⟨0, rfl⟩⟩
  case round =>
    obtain ⟨k, hk, rfl, HB⟩ := hrel
    by_cases hlt : k < n
    · obtain ⟨p, hp⟩ : ∃ p, ks[k]? = some p := ⟨_, List.getElem?_eq_getElem (by rw [HN.out]; exact hlt)⟩
      obtain rfl := h2 (by omega)
      obtain rfl := h2' (by omega)
      have c1 := H1.out k p hp
      have c2 := H2.out k p hp
      have hbl : Below w.heap.size w wr := by obtain ⟨m, rfl⟩ := HB.out; exact below_drewN (Below.refl _ _) m
      replace c1 := keepCell hbl c1
      replace c2 := keepCell hbl c2
      clear hp hbl
      go_wp2_with fail
      go_quiet (fail)
      go_wp2_with fail
      go_round
      case rel => exact ⟨k + 1, hlt, val_int (by omega), by obtain ⟨m, rfl⟩ := HB.out; exact ⟨_, World.drewN_drewN _ _ _⟩⟩
      case measure => simp [intOf]; omega
    · go_wp2_with fail
      go_ret
      exact ⟨rfl, HB.out⟩
set_option maxRecDepth 100000 in
set_option maxHeartbeats 4000000 in
theorem prows_same (rows : List (List ByteArray)) (v v' : Value) (w : World) (hn : RBnd rows) (h : CRw w rows v) (h' : CRw w rows v') :
    Calls Tryd.prog 16 #[v, v'] w fun e w' => e = .returned (.bool true) ∧ Below w.heap.size w w' := by
  obtain ⟨a, o, cap, rfl, h1, h2, h3⟩ := h
  obtain ⟨a', o', cap', rfl, h1', h2', h3'⟩ := h'
  have H1 := hid h3
  have H2 := hid h3'
  have HR := hid hn
  have hl := hn.1
  clear h3 h3' hn
  obtain ⟨n, hn⟩ : ∃ n, rows.length = n := ⟨_, rfl⟩
  have HN := hid hn
  rw [hn] at hl h1 h1' h2 h2' ⊢
  clear hn
  go_enter Tryd.func16, Tryd.ntmps16
  go_wp2_with fail
  go_loopw [5] (fun x wr => ∃ k : Nat, k ≤ n ∧ x = .int .i64 (k : Int) ∧ Hid (Below w.heap.size w wr)) (fun x _ => n - (intOf x).toNat)
  case atStart => exact ⟨0, Nat.zero_le _, rfl, Below.refl _ _⟩
  case round =>
    obtain ⟨k, hk, rfl, HB⟩ := hrel
    by_cases hlt : k < n
    · obtain ⟨ks, hp⟩ : ∃ p, rows[k]? = some p := ⟨_, List.getElem?_eq_getElem (by rw [HN.out]; exact hlt)⟩
      obtain rfl := h2 (by omega)
      obtain rfl := h2' (by omega)
      obtain ⟨u, c1, s1⟩ := H1.out k ks hp
      obtain ⟨u', c2, s2⟩ := H2.out k ks hp
      replace c1 := keepCell HB.out c1
      replace c2 := keepCell HB.out c2
      have CT := hid (fun m => ptexts_same ks u u' (wr.drewN m) (by have := (HR.out.2 ks (List.mem_of_getElem? hp)).1; omega) (s1.onto (below_drewN HB.out m)) (s2.onto (below_drewN HB.out m)))
      obtain ⟨x1, x2, x3, rfl⟩ := s1.shape
      obtain ⟨y1, y2, y3, rfl⟩ := s2.shape
      have CT' : Hid (∀ m, Calls Tryd.prog 28 #[.slice x1 x2 x3, .slice y1 y2 y3] (wr.drewN m) fun x w' => x = .returned (.bool true) ∧ ∃ n, w' = wr.drewN n) := hid (fun m => (CT.out m).mono (by rintro e w5 ⟨rfl, q, rfl⟩; exact ⟨rfl, _, World.drewN_drewN _ _ _⟩))
      clear hp s1 s2 CT
      go_wp2_with fail
      go_quiet ((go_at_call 28; exact CT'.out _))
      go_wp2_with fail
      go_round
      case rel => exact ⟨k + 1, hlt, val_int (by omega), below_drewN HB.out _⟩
      case measure => simp [intOf]; omega
    · go_wp2_with fail
      go_ret
      exact ⟨rfl, HB.out⟩
/-- what great's answer says -/
def Grt (rows : List (List ByteArray)) (b : Bool) : Prop := b = false → rows.length ≤ 30 ∧ ∀ ks ∈ rows, ks.length ≤ 70 ∧ ∀ s ∈ ks, s.size ≤ 5000
/-- what great ends in -/
def GrtP (rows : List (List ByteArray)) (w : World) (e : Ending) (w' : World) : Prop := ∃ b, e = .returned (.bool b) ∧ Grt rows b ∧ w' = w
theorem Grt.bnd {rows : List (List ByteArray)} (h : Grt rows false) : RBnd rows := by
  obtain ⟨h1, h2⟩ := h rfl
  exact ⟨by omega, fun ks hk => ⟨by have := (h2 ks hk).1; omega, fun s hs => by have := (h2 ks hk).2 s hs; omega⟩⟩
theorem mem_take_next {α : Type} {l : List α} {j : Nat} {x : α} {P : α → Prop} (h : l[j]? = some x) (hp : P x) (ha : ∀ y ∈ l.take j, P y) : ∀ y ∈ l.take (j + 1), P y := by
  intro y hy
  rw [List.take_add_one, h] at hy
  rcases List.mem_append.1 hy with hy | hy
  · exact ha y hy
  · simp at hy; rw [hy]; exact hp
set_option maxRecDepth 100000 in
set_option maxHeartbeats 2000000 in
theorem great_any (rows : List (List ByteArray)) (v : Value) (w : World) (h : InR w rows v) :
    Calls Tryd.prog 11 #[v] w (GrtP rows w) := by
  obtain ⟨a, ⟨o, cap, rfl, hc1, hc2, ho⟩, hcell⟩ := h
  unfold maxLen at hc2
  have HCE := hid hcell
  clear hcell
  by_cases h30 : 30 < rows.length
  · go_enter Tryd.func11, Tryd.ntmps11
    go_wp2_with fail
    go_ret
    exact ⟨true, rfl, fun h => by simp at h, rfl⟩
  go_enter Tryd.func11, Tryd.ntmps11
  go_wp2_with fail
  go_loopw [3] (fun i wr => ∃ j : Nat, j ≤ rows.length ∧ i = .int .i64 j ∧ w = wr ∧ Hid (∀ ks ∈ rows.take j, ks.length ≤ 70 ∧ ∀ s ∈ ks, s.size ≤ 5000)) (fun i _ => rows.length - (intOf i).toNat)
  case atStart => exact ⟨0, Nat.zero_le _, rfl, rfl, fun ks hk => by simp at hk⟩
  case round =>
    obtain ⟨j, hj, rfl, rfl, HA⟩ := hrel
    by_cases hlt : j < rows.length
    · obtain ⟨ks, hks⟩ : ∃ ks, rows[j]? = some ks := ⟨rows[j], List.getElem?_eq_getElem hlt⟩
      obtain rfl := ho (by omega)
      obtain ⟨u, hu, hin⟩ := HCE.out j ks hks
      have HKS := hid hks
      obtain ⟨a2, ⟨o2, cap2, rfl, hd1, hd2, ho2⟩, hcell2⟩ := hin
      unfold maxLen at hd2
      have HC2 := hid hcell2
      clear hcell2 hks
      by_cases h70 : 70 < ks.length
      · go_wp2_with fail
        go_ret
        exact ⟨true, rfl, fun h => by simp at h, rfl⟩
      go_wp2_with fail
      go_loopw [4] (fun i wr => ∃ k : Nat, k ≤ ks.length ∧ i = .int .i64 k ∧ w = wr ∧ Hid (∀ s ∈ ks.take k, s.size ≤ 5000)) (fun i _ => ks.length - (intOf i).toNat)
      case atStart => exact ⟨0, Nat.zero_le _, rfl, rfl, fun ks hk => by simp at hk⟩
      case round =>
        obtain ⟨k, hk, rfl, rfl, HAS⟩ := hrel
        by_cases hkl : k < ks.length
        · obtain ⟨c, hc⟩ : ∃ c, ks[k]? = some c := ⟨ks[k], List.getElem?_eq_getElem hkl⟩
          obtain rfl := ho2 (by omega)
          have e0 := (HC2.out k c hc).1
          have hcz := (HC2.out k c hc).2
          unfold maxLen at hcz
          have HC := hid hc
          clear hc
          by_cases h5 : 5000 < c.size
          · go_wp2_with fail
            go_ret
            exact ⟨true, rfl, fun h => by simp at h, rfl⟩
          have HN2 := hid (mem_take_next (P := fun s : ByteArray => s.size ≤ 5000) HC.out (by omega) HAS.out)
          go_wp2_with fail
          go_roundw
          case rel => exact ⟨k + 1, hkl, val_int (by omega), trivial, HN2.out⟩
          case measure => simp [intOf]; omega
        · obtain rfl : k = ks.length := by omega
          have HN3 := hid (mem_take_next (P := fun ks : List ByteArray => ks.length ≤ 70 ∧ ∀ s ∈ ks, s.size ≤ 5000) HKS.out ⟨by omega, by have := HAS.out; rw [List.take_of_length_le (Nat.le_refl _)] at this; exact this⟩ HA.out)
          go_wp2_with fail
          go_roundw
          case rel => exact ⟨j + 1, hlt, val_int (by omega), trivial, HN3.out⟩
          case measure => simp [intOf]; omega
    · obtain rfl : j = rows.length := by omega
      go_wp2_with fail
      go_ret
      exact ⟨false, rfl, fun _ => ⟨by omega, by have := HA.out; rw [List.take_of_length_le (Nat.le_refl _)] at this; exact this⟩, rfl⟩
end Go.Proofs.YtjbccmnmcjmooaaDoor
