import Derived.Test.YtjbccmnmcjmooaaDoorCpF
/- The document's own writer of CSV: Print. -/
namespace Go.Proofs.YtjbccmnmcjmooaaDoor
open Go.RowKit

/-- a row's first fields, written -/
def prt (ms : List (List UInt8)) (al : Bool) (k : Nat) : List UInt8 := Lib.join ((ms.take k).map (fldB · al)) [44]
theorem join_snoc (x : List UInt8) : ∀ xs : List (List UInt8), xs ≠ [] → Lib.join (xs ++ [x]) [44] = Lib.join xs [44] ++ ([44] ++ x)
  | [], h => absurd rfl h
  | [y], _ => by
    show Lib.join (y :: x :: []) [44] = _
    rw [join_two, Lib.join_one, Lib.join_one]
  | y :: z :: r, _ => by
    have ih := join_snoc x (z :: r) (by simp)
    show Lib.join (y :: z :: (r ++ [x])) [44] = _
    rw [join_two, join_two]
    have ih' : Lib.join (z :: (r ++ [x])) [44] = Lib.join (z :: r) [44] ++ ([44] ++ x) := ih
    rw [ih']; simp
theorem prt_first (ms : List (List UInt8)) (al : Bool) (c : List UInt8) (h : ms[0]? = some c) : prt ms al 1 = fldB c al := by
  unfold prt
  rw [List.take_add_one, h]
  simp [Lib.join_one]
theorem prt_next (ms : List (List UInt8)) (al : Bool) (k : Nat) (c : List UInt8) (hk : 0 < k) (h : ms[k]? = some c) : prt ms al (k + 1) = prt ms al k ++ ([44] ++ fldB c al) := by
  unfold prt
  rw [List.take_add_one, h, List.map_append]
  have hl : k < ms.length := lt_of_some h
  refine join_snoc (fldB c al) _ ?_
  intro e
  have := congrArg List.length e
  rw [List.length_map, List.length_take, List.length_nil] at this; omega
theorem prt_all (ms : List (List UInt8)) : prt ms (decide (ms.length = 1)) ms.length ++ [13, 10] = rowB ms := by
  unfold prt rowB; rw [List.take_of_length_le (Nat.le_refl _)]
theorem prt_len (ms : List (List UInt8)) (al : Bool) (k : Nat) (h1 : ms.length ≤ 1000) (h2 : ∀ x ∈ ms, x.length ≤ 100000) : (prt ms al k).length ≤ 300000000 := by
  unfold prt
  have := pjoin_len 200002 ((ms.take k).map (fldB · al)) (fun x hx => by
    obtain ⟨y, hy, rfl⟩ := List.mem_map.1 hx
    have h1 := fldB_len y al
    have h2 := h2 y (List.mem_of_mem_take hy)
    omega)
  rw [List.length_map, List.length_take] at this
  omega
set_option maxRecDepth 100000 in
set_option maxHeartbeats 2000000 in
theorem dprint_any (rows : List (List ByteArray)) (v : Value) (w : World) (h : InR w rows v) (hn : RBnd rows) :
    Calls Tryd.prog 13 #[v] w fun e w' => e = .returned (.string (mkS (prnB (rb rows)))) ∧ ∃ n, w' = w.drewN n := by
  obtain ⟨a, ⟨o, cap, rfl, hc1, hc2, ho⟩, hcell⟩ := h
  unfold maxLen at hc2
  have HN := hid hn
  have hn1 := hn.1
  have hall : (rb rows).take rows.length = rb rows := by unfold rb; exact List.take_of_length_le (by simp)
  have HL := hid hall
  have HCE := hid hcell
  clear hn hall hcell
  go_enter Tryd.func13, Tryd.ntmps13
  go_wp2_with fail
  go_loopw [3, 4] (fun sv i wr => ∃ (j : Nat) (A : ByteArray), j ≤ rows.length ∧ i = .int .i64 j ∧ sv = .string A ∧ A.size ≤ 300000000000 ∧ Hid (∃ n, wr = w.drewN n) ∧ Hid (A = mkS (prnB ((rb rows).take j)))) (fun _ i _ => rows.length - (intOf i).toNat)
  case atStart => exact ⟨0, ⟨#[]⟩, Nat.zero_le _, rfl, rfl, Nat.zero_le _, ⟨0, rfl⟩, rfl⟩
  case round =>
    obtain ⟨j, A, hj, rfl, rfl, hA, HW, HA⟩ := hrel
    by_cases hlt : j < rows.length
    · obtain ⟨ks, hks⟩ : ∃ ks, rows[j]? = some ks := ⟨rows[j], List.getElem?_eq_getElem hlt⟩
      obtain rfl := ho (by omega)
      obtain ⟨u, hu, hin⟩ := HCE.out j ks hks
      have hmem := List.mem_of_getElem? hks
      obtain ⟨a2, ⟨o2, cap2, rfl, hd1, hd2, ho2⟩, hcell2⟩ := hin
      unfold maxLen at hd2
      have HU := hid (show ∀ X, (∃ n, X = w.drewN n) → X.cell? (a.add j) = _ from fun X ⟨q, hq⟩ => hq ▸ keepCell (below_drewN (Below.refl w.heap.size w) q) hu)
      have HC2 := hid hcell2
      have hl1 : ks.length ≤ 1000 := (HN.out.2 ks hmem).1
      have HS := hid (HN.out.2 ks hmem).2
      have HT := hid (prn_take rows j ks hks)
      have hpz := prn_len rows HN.out j hj
      have HPZ := hid hpz
      have hpz2 := prn_len rows HN.out (j + 1) hlt
      have HPZ2 := hid hpz2
      obtain ⟨al, hal⟩ : ∃ al, decide (ks.length = 1) = al := ⟨_, rfl⟩
      have HAL := hid hal
      have HPL := hid (fun k => prt_len (ks.map (·.data.toList)) al k (by rw [List.length_map]; exact hl1) (fun x hx => by
        obtain ⟨s, hs, rfl⟩ := List.mem_map.1 hx
        rw [size_list]; exact HS.out s hs))
      clear hu hcell2 hks hmem hpz hpz2 hal
      have d0 := HU.out _ HW.out
      go_wp2_with fail
      go_loopw [3, 5] (fun sv i wr => ∃ (k : Nat) (B : ByteArray), k ≤ ks.length ∧ i = .int .i64 k ∧ sv = .string B ∧ B.size ≤ 400000000000 ∧ Hid (∃ n, wr = w.drewN n) ∧ Hid (B = mkS (prnB ((rb rows).take j) ++ prt (ks.map (·.data.toList)) al k))) (fun _ i _ => ks.length - (intOf i).toNat)
      case atStart => exact ⟨0, A, Nat.zero_le _, rfl, rfl, by omega, HW.out, (show A = mkS (prnB ((rb rows).take j) ++ prt (ks.map (·.data.toList)) al 0) by rw [HA.out]; unfold prt; simp [Lib.join_nil])⟩
      case round =>
        obtain ⟨k, B, hk, rfl, rfl, hB, HW2, HBE⟩ := hrel
        clear d0
        have d0 := HU.out _ HW2.out
        by_cases hkl : k < ks.length
        · obtain ⟨c, hc⟩ : ∃ c, ks[k]? = some c := ⟨ks[k], List.getElem?_eq_getElem hkl⟩
          obtain rfl := ho2 (by omega)
          have d1 := (show ∀ X, (∃ n, X = w.drewN n) → X.cell? (a2.add k) = _ from fun X ⟨q, hq⟩ => hq ▸ keepCell (below_drewN (Below.refl w.heap.size w) q) (HC2.out k c hc).1) _ HW2.out
          have hcz := HS.out c (List.mem_of_getElem? hc)
          have hck : (ks.map (·.data.toList))[k]? = some c.data.toList := by rw [List.getElem?_map, hc]; rfl
          have CF := hid (fun (b : Bool) (hb : b = al) (X : World) => (show Calls Tryd.prog 12 #[.string c, .bool b] X fun e w' => e = .returned (.string (mkS (fldB c.data.toList al))) ∧ w' = X from hb ▸ dfield_any c b X (by omega)))
          obtain ⟨F, hF⟩ : ∃ F, mkS (fldB c.data.toList al) = F := ⟨_, rfl⟩
          have hFz : F.size ≤ 200002 := by rw [← hF, mkS_size]; have := fldB_len c.data.toList al; rw [size_list] at this; omega
          have hbz : (prnB ((rb rows).take j) ++ prt (ks.map (·.data.toList)) al (k + 1)).length ≤ 400000000000 := by
            rw [List.length_append]
            have h1 := HPZ.out
            have h2 := HPL.out (k + 1)
            omega
          by_cases hk0 : ¬ 0 < k
          · have HNX : Hid (B ++ F = mkS (prnB ((rb rows).take j) ++ prt (ks.map (·.data.toList)) al (k + 1))) := hid (by
              obtain rfl : k = 0 := by omega
              rw [prt_first _ al _ hck, HBE.out, ← hF]
              refine mkS_of _ _ ?_
              simp only [papp, mkS_list]
              unfold prt; simp [Lib.join_nil])
            have hz : (B ++ F).size ≤ 400000000000 := by rw [HNX.out, mkS_size]; exact hbz
            rw [hF] at CF
            clear hck hc HBE hF hbz
            go_wp2_with fail
            go_quiet ((go_at_call 12; exact Calls.quiet_of_same (CF.out _ (by rw [← HAL.out, Bool.eq_iff_iff]; simp; omega) _)))
            go_wp2_with fail
            go_roundw
            case rel => exact ⟨k + 1, B ++ F, hkl, val_int (by omega), rfl, hz, (let ⟨n, hn⟩ := HW2.out; ⟨_, by rw [hn, World.drewN_drewN]⟩), HNX.out⟩
            case measure => simp [intOf]; omega
          · have HNX : Hid (B ++ (⟨#[44]⟩ : ByteArray) ++ F = mkS (prnB ((rb rows).take j) ++ prt (ks.map (·.data.toList)) al (k + 1))) := hid (by
              rw [prt_next _ al k _ (by omega) hck, HBE.out, ← hF]
              refine mkS_of _ _ ?_
              simp only [papp, mkS_list]
              simp)
            have hz : (B ++ (⟨#[44]⟩ : ByteArray) ++ F).size ≤ 400000000000 := by rw [HNX.out, mkS_size]; exact hbz
            rw [hF] at CF
            clear hck hc HBE hF hbz
            go_wp2_with fail
            go_quiet ((go_at_call 12; exact Calls.quiet_of_same (CF.out _ (by rw [← HAL.out, Bool.eq_iff_iff]; simp; omega) _)))
            go_wp2_with fail
            go_roundw
            case rel => exact ⟨k + 1, B ++ (⟨#[44]⟩ : ByteArray) ++ F, hkl, val_int (by omega), rfl, hz, (let ⟨n, hn⟩ := HW2.out; ⟨_, by rw [hn, World.drewN_drewN]⟩), HNX.out⟩
            case measure => simp [intOf]; omega
        · obtain rfl : k = ks.length := by omega
          have HNX : Hid (B ++ (⟨#[13, 10]⟩ : ByteArray) = mkS (prnB ((rb rows).take (j + 1)))) := hid (by
            rw [HT.out, ← prt_all, List.length_map, HAL.out, HBE.out]
            refine mkS_of _ _ ?_
            simp only [papp, mkS_list]
            simp)
          have hz : (B ++ (⟨#[13, 10]⟩ : ByteArray)).size ≤ 300000000000 := by rw [HNX.out, mkS_size]; have := HPZ2.out; omega
          clear HBE HPL
          go_wp2_with fail
          go_roundw
          case rel => exact ⟨j + 1, B ++ (⟨#[13, 10]⟩ : ByteArray), hlt, val_int (by omega), rfl, hz, HW2.out, HNX.out⟩
          case measure => simp [intOf]; omega
    · obtain rfl : j = rows.length := by omega
      rw [HL.out] at HA
      go_wp2_with fail
      go_ret
      exact ⟨by rw [← HA.out]; rfl, HW.out⟩
end Go.Proofs.YtjbccmnmcjmooaaDoor
