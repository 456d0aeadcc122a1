/- A strings.Builder that is a printer's first field: what is written into it. -/
import Derived.Test.YtkhjahpkbjafaaaGreatDoorUEscK
import Derived.Test.YtkhjahpkbjafaaaGreatDoorUVBase
import Derived.Lib.OthersKept
import Derived.Lib.AppendStr
import Derived.Laws.Externs
namespace Go.Proofs.YtkhjahpkbjafaaaGreatDoor
open Go.RowKit

/-- a printer that has written these bytes -/
def Pr (w : World) (b : Nat) (l : List UInt8) (inl : Bool) : Prop := ∃ p v, w.heap[b]? = some (.cells #[p, v, .bool inl] 83 (0, 0)) ∧ (p = .pointer none ∨ p = .pointer (some ⟨b, 0, none⟩)) ∧ w.ownsRow (b + 1) 5 1 v l.length (Lib.strCells (mkS l))
/-- all but that printer, and rows of bytes above it, is as it was -/
def Kp (b : Nat) (w w' : World) : Prop := Below b w w' ∧ Lib.OthersKept 5 (some b) w w' ∧ w.heap.size ≤ w'.heap.size
theorem Kp.refl (b : Nat) (w : World) : Kp b w w := ⟨Below.refl _ _, Lib.OthersKept.refl _ _ _, Nat.le_refl _⟩
theorem Kp.trans {b : Nat} {w w1 w2 : World} (h : Kp b w w1) (g : Kp b w1 w2) : Kp b w w2 := ⟨h.1.trans g.1, h.2.1.trans g.2.1, Nat.le_trans h.2.2 g.2.2⟩
theorem cell_heap {w : World} {b : Nat} {cs : Array Value} {t : TypeId} {fz : Nat × Nat} (h : w.heap[b]? = some (.cells cs t fz)) (j : Nat) : w.cell? ⟨b, j, none⟩ = cs[j]? := Lib.cell_of_heap h j
theorem Tryz.prI : ∃ j, Tryz.prog.info? 81 = some j ∧ j.size = 2 := by
  have h : (Tryz.prog.info? 81).map (·.size) = some 2 := by kernel_rfl
  obtain ⟨j, hj, hs⟩ := Option.map_eq_some_iff.1 h
  exact ⟨j, hj, hs⟩
set_option maxRecDepth 100000 in
set_option maxHeartbeats 1000000 in
theorem pcheck_used (b : Nat) (w : World) (h0 : w.cell? ⟨b, 0, none⟩ = some (.pointer (some ⟨b, 0, none⟩))) :
    Calls Tryz.prog 99 #[.pointer (some ⟨b, 0, none⟩)] w fun e w' => e = .returned (.tuple #[]) ∧ w' = w := by
  obtain ⟨j, hj, -⟩ := Tryz.prI
  go_enter Tryz.func99, Tryz.ntmps99
  go_wp2
  rw [Lib.run_neq_ptr_same w _ Tryz.underlying79 hj]
  go_wp2
  go_end0
  exact ⟨rfl, rfl⟩
set_option maxRecDepth 100000 in
set_option maxHeartbeats 1000000 in
theorem pcheck_fresh (b : Nat) (w : World) (h0 : w.cell? ⟨b, 0, none⟩ = some (.pointer none)) (hsh : w.shape? b = some (83, 3)) (hfz : w.frozen? ⟨b, 0, none⟩ = false) :
    Calls Tryz.prog 99 #[.pointer (some ⟨b, 0, none⟩)] w fun e w' => e = .returned (.tuple #[]) ∧ w' = w.setCell ⟨b, 0, none⟩ (.pointer (some ⟨b, 0, none⟩)) := by
  obtain ⟨j, hj, hjs⟩ := Tryz.prI
  go_enter Tryz.func99, Tryz.ntmps99
  go_wp2
  rw [Lib.run_to_unsafe w ⟨b, 0, none⟩ Tryz.underlying79 Tryz.underlying144 hj (by rw [hjs]; decide) hsh (show 0 < 3 by omega)]
  simp only [Result.andThen]
  rw [Oper.upon_value]
  go_wp2
  rw [run_callFunc_extern Tryz.func127 (by kernel_rfl) (by kernel_rfl) (by kernel_rfl) (e := Extern.AbiNoEscape.same) (by kernel_rfl)]
  rw [Lib.run_noEscape]
  simp only [Result.andThen]
  rw [Oper.upon_value]
  go_wp2
  rw [Lib.run_from_unsafe w ⟨b, 0, none⟩ Tryz.underlying144 Tryz.underlying79 hj hsh (by kernel_rfl)]
  simp only [Result.andThen]
  rw [Oper.upon_value]
  go_wp2
  go_end0
  exact ⟨rfl, rfl⟩
theorem frozen_heap {w : World} {b : Nat} {cs : Array Value} {t : TypeId} (h : w.heap[b]? = some (.cells cs t (0, 0))) (j : Nat) : w.frozen? ⟨b, j, none⟩ = false := Lib.frozen_of_heap h j
theorem heap_set {w : World} {b j : Nat} {cs : Array Value} {t : TypeId} {fz : Nat × Nat} (h : w.heap[b]? = some (.cells cs t fz)) (v : Value) : (w.setCell ⟨b, j, none⟩ v).heap[b]? = some (.cells (cs.setIfInBounds j v) t fz) := by
  simp [World.setCell, Array.getElem?_modify, h]
/-- behind copyCheck the printer holds its own address -/
theorem pcheck_any (b : Nat) (l : List UInt8) (inl : Bool) (w : World) (h : Pr w b l inl) :
    Calls Tryz.prog 99 #[.pointer (some ⟨b, 0, none⟩)] w fun e w' => e = .returned (.tuple #[]) ∧ (∃ v, w'.heap[b]? = some (.cells #[.pointer (some ⟨b, 0, none⟩), v, .bool inl] 83 (0, 0)) ∧ w'.ownsRow (b + 1) 5 1 v l.length (Lib.strCells (mkS l))) ∧ Kp b w w' := by
  obtain ⟨p, v, hb, hp, hv⟩ := h
  rcases hp with rfl | rfl
  · refine (pcheck_fresh b w (by rw [cell_heap hb]; rfl) (by simp [World.shape?, hb]) (frozen_heap hb 0)).mono ?_
    rintro e w' ⟨rfl, rfl⟩
    refine ⟨rfl, ⟨v, by rw [heap_set hb]; rfl, ?_⟩, (Below.refl _ _).setCell (Nat.le_refl b) _, (Lib.OthersKept.refl _ _ _).setCell ⟨b, 0, none⟩ rfl _, by simp⟩
    exact ownsRow_setCell_below hv (show b < b + 1 by omega) _
  · refine (pcheck_used b w (by rw [cell_heap hb]; rfl)).mono ?_
    rintro e w' ⟨rfl, rfl⟩
    exact ⟨rfl, ⟨v, hb, hv⟩, Kp.refl _ _⟩
theorem heap_lt {w : World} {b : Nat} {o : Obj} (h : w.heap[b]? = some o) : b < w.heap.size := (Array.getElem?_eq_some_iff.1 h).1
theorem own_str {w : World} {base : Nat} {v : Value} {a : List UInt8} {m : ByteArray} (h : w.ownsRow base 5 1 v (a.length + m.size) (Lib.strCells (mkS a) ++ Lib.strCells m)) : w.ownsRow base 5 1 v (a ++ m.data.toList).length (Lib.strCells (mkS (a ++ m.data.toList))) :=
  own_app (mkS_of m _ rfl).symm h
theorem own_kind {w : World} {B : Nat} {e : TypeId} {v : Value} {n : Nat} {xs : List Value} (h : w.ownsRow B e 1 v n xs) : ∀ g, v.ownBlock = some g → ∃ c fz, w.heap[g]? = some (.cells c e fz) := Lib.ownsRowF_kind (World.ownsRowF_of h)
set_option maxRecDepth 100000 in
set_option maxHeartbeats 2000000 in
theorem pwrite_any (b : Nat) (l : List UInt8) (inl : Bool) (s : ByteArray) (w : World) (h : Pr w b l inl) (hlen : l.length + s.size ≤ 140737488355328) :
    Calls Tryz.prog 71 #[.pointer (some ⟨b, 0, none⟩), .string s] w fun e w' => e = .returned (.tuple #[.int .i64 s.size, .nilIface]) ∧ Pr w' b (l ++ s.data.toList) inl ∧ Kp b w w' := by
  obtain ⟨i1, hi, hz0, hz1, hz2⟩ := info_parts Tryz.info_b
  have CC := hid (pcheck_any b l inl w h)
  clear h
  go_enter Tryz.func71, Tryz.ntmps71
  go_wp2_with fail
  go_at_call 99
  refine CC.out.mono ?_
  rintro e w1 ⟨rfl, ⟨v, hbk, hown⟩, hkp⟩
  have hlt := heap_lt hbk
  have c0 : w1.cell? ⟨b, 0, none⟩ = some (.pointer (some ⟨b, 0, none⟩)) := by rw [cell_heap hbk]; rfl
  have c1 : w1.cell? ⟨b, 1, none⟩ = some v := by rw [cell_heap hbk]; rfl
  have HBK := hid hbk
  have HKP := hid hkp
  clear hbk hkp CC
  go_wp2_with (at_builtin; refine Lib.wpList_append_own_string _ rfl _ _ 34 9 rfl (b + 1) 5 i1 Tryz.underlying34 Tryz.underlying9 hi hz0 hz1 hz2 _ l.length _ rfl hown s rfl (by unfold maxLen; omega) (by omega) (by omega) ?_)
  intro v' w2 hown' hgrow _
  have hne : v.ownBlock ≠ some b := fun e => by have := (hown.lt b e).1; omega
  have hb2 : w2.heap[b]? = some (.cells #[.pointer (some ⟨b, 0, none⟩), v, .bool inl] 83 (0, 0)) := by
    rw [hgrow.block b hlt (fun e => hne e.symm)]
    exact HBK.out
  have d0 : w2.cell? ⟨b, 0, none⟩ = some (.pointer (some ⟨b, 0, none⟩)) := by rw [cell_heap hb2]; rfl
  have d1 : w2.cell? ⟨b, 1, none⟩ = some v := by rw [cell_heap hb2]; rfl
  have f1 : w2.frozen? ⟨b, 1, none⟩ = false := frozen_heap hb2 1
  obtain ⟨ao, n', cap, rfl⟩ : ∃ ao n' cap, v' = .slice ao n' cap := by
    rcases hown'.2 with ⟨hv, _⟩ | ⟨g, cap, cur, hv, _⟩
    · exact ⟨_, _, _, hv⟩
    · exact ⟨_, _, _, hv⟩
  have HO := hid hown'
  have HG := hid hgrow
  have HW := hid hown
  have HB2 := hid hb2
  clear hown' hgrow hown hb2
  go_wp2
  go_ret2
  refine ⟨rfl, ⟨.pointer (some ⟨b, 0, none⟩), .slice ao n' cap, ?_, Or.inr rfl, ?_⟩, ?_⟩
  · rw [heap_set HB2.out]; rfl
  · exact ownsRow_setCell_below (own_str HO.out) (show b < b + 1 by omega) _
  · refine HKP.out.trans ⟨?_, ?_, ?_⟩
    · exact ((Below.refl b w1).grown HG.out (by omega) (fun k hk => by have := (HW.out.lt k hk).1; omega)).setCell (p := ⟨b, 1, none⟩) (Nat.le_refl b) _
    · exact ((Lib.OthersKept.refl _ _ w1).grown HG.out (own_kind HW.out)).setCell ⟨b, 1, none⟩ rfl _
    · have := HG.out.size
      simpa using this
end Go.Proofs.YtkhjahpkbjafaaaGreatDoor
