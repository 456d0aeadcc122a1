/- Plain mathematics: what a map has, below headers. -/
import Derived.Test.YtiaepihdfbahaaaGreatDoorAMathIn
import Derived.Test.YtiaepihdfbahaaaGreatDoorAEscK
import Derived.Test.YtiaepihdfbahaaaGreatDoorAVSameT
import Derived.Lib.OthersKept
import Derived.Lib.AppendStr
import Derived.Laws.Externs
import Derived.Shelf.Strings.BuilderX
import Derived.Test.YtiaepihdfbahaaaGreatDoorADecOne
import Derived.Test.YtiaepihdfbahaaaGreatDoorAMathDecAll
import Derived.Lib.AppendIntMem
import Derived.Shelf.Small.Wraps
import Derived.Test.YtiaepihdfbahaaaGreatDoorProg
import Derived.Test.YtiaepihdfbahaaaGreatDoorAOrders
/- A strings.Builder that is all of a printer of TOML: what is written into it. -/
/- What a printer of TOML has written: as a string, how long it is. -/
/- The library's table of powers, and a number's digits written by it. -/
/- The library's contracts that the walks take, laid at this translation. -/
/- The program's printer of TOML: a value without parts. -/
namespace Go.Proofs.YtiaepihdfbahaaaGreatDoor
open Go.RowKit

/-- the document's tables -/
def dtbB (t : VT) : Bool := decide (t.kd = 5) && tblB t
def plnD (t : VT) : Bool := !decide (t.kd = 6) && !dtbB t
/-- a pair in a line of its own -/
def plpB (t : VT) (c : List UInt8) (s : List UInt8) : List UInt8 := if plnD t = true then s ++ (pkB c ++ ([32, 61, 32] ++ (ivT t ++ [10]))) else s
def plM : List VT → List ByteArray → List UInt8 → List UInt8
  | [], _, s => s
  | t :: r, K, s => plM r K.tail (plpB t (K.headD ⟨#[]⟩).data.toList s)
def hd1 (q : List UInt8) : List UInt8 := 91 :: (q ++ [93])
def hd2 (q : List UInt8) : List UInt8 := 91 :: 91 :: (q ++ [93, 93])
mutual
/-- what a map has, behind what stands ahead -/
def bdT : VT → List UInt8 → List UInt8 → List UInt8
  | .mk _ _ _ _ K V, s, p => bdM V K (plM V K s) p
def bdM : List VT → List ByteArray → List UInt8 → List UInt8 → List UInt8
  | [], _, s, _ => s
  | t :: r, K, s, p => bdM r K.tail (bdX t s (jpB p (K.headD ⟨#[]⟩).data.toList)) p
def bdX : VT → List UInt8 → List UInt8 → List UInt8
  | .mk k n u L K V, s, q => if k = 6 then bdM V K (plM V K (hhB s (hd1 q))) q else if dtbB (.mk k n u L K V) = true then bdL L s q else s
def bdL : List VT → List UInt8 → List UInt8 → List UInt8
  | [], s, _ => s
  | t :: r, s, q => bdL r (bdT t (hhB s (hd2 q)) q) q
end
theorem plM_app : ∀ (A B : List VT) (K J : List ByteArray) (s : List UInt8), K.length = A.length → plM (A ++ B) (K ++ J) s = plM B J (plM A K s)
  | [], B, [], J, s, _ => by simp [plM]
  | [], B, c :: K, J, s, h => by simp at h
  | t :: A, B, [], J, s, h => by simp at h
  | t :: A, B, c :: K, J, s, h => by
    rw [List.cons_append, List.cons_append, plM, plM, List.tail_cons, List.tail_cons, plM_app A B K J _ (by simpa using h)]; rfl
theorem bdM_app : ∀ (A B : List VT) (K J : List ByteArray) (s p : List UInt8), K.length = A.length → bdM (A ++ B) (K ++ J) s p = bdM B J (bdM A K s p) p
  | [], B, [], J, s, p, _ => by simp [bdM]
  | [], B, c :: K, J, s, p, h => by simp at h
  | t :: A, B, [], J, s, p, h => by simp at h
  | t :: A, B, c :: K, J, s, p, h => by
    rw [List.cons_append, List.cons_append, bdM, bdM, List.tail_cons, List.tail_cons, bdM_app A B K J _ _ (by simpa using h)]; rfl
theorem bdL_app : ∀ (A B : List VT) (s q : List UInt8), bdL (A ++ B) s q = bdL B (bdL A s q) q
  | [], B, s, q => by simp [bdL]
  | t :: A, B, s, q => by rw [List.cons_append, bdL, bdL, bdL_app A B]
theorem pl_next {V : List VT} {K : List ByteArray} {j : Nat} {t : VT} {c : ByteArray} (s : List UInt8) (h : V[j]? = some t) (g : K[j]? = some c) : plM (V.take (j + 1)) (K.take (j + 1)) s = plpB t c.data.toList (plM (V.take j) (K.take j) s) := by
  have h1 := lt_of_some h
  have h2 := lt_of_some g
  rw [tk_next h, tk_next g, plM_app _ _ _ _ _ (by rw [List.length_take, List.length_take]; omega)]
  simp [plM]
theorem bd_next {V : List VT} {K : List ByteArray} {j : Nat} {t : VT} {c : ByteArray} (s p : List UInt8) (h : V[j]? = some t) (g : K[j]? = some c) : bdM (V.take (j + 1)) (K.take (j + 1)) s p = bdX t (bdM (V.take j) (K.take j) s p) (jpB p c.data.toList) := by
  have h1 := lt_of_some h
  have h2 := lt_of_some g
  rw [tk_next h, tk_next g, bdM_app _ _ _ _ _ _ (by rw [List.length_take, List.length_take]; omega)]
  simp [bdM]
theorem bl_next {L : List VT} {j : Nat} {t : VT} (s q : List UInt8) (h : L[j]? = some t) : bdL (L.take (j + 1)) s q = bdT t (hhB (bdL (L.take j) s q) (hd2 q)) q := by
  rw [tk_next h, bdL_app]
  simp [bdL]
theorem plpB_ge (t : VT) (c s : List UInt8) : s.length ≤ (plpB t c s).length := by
  unfold plpB; split
  · rw [List.length_append]; omega
  · omega
theorem plM_ge : ∀ (V : List VT) (K : List ByteArray) (s : List UInt8), s.length ≤ (plM V K s).length
  | [], K, s => by simp [plM]
  | t :: V, K, s => by
    rw [plM]
    exact Nat.le_trans (plpB_ge _ _ _) (plM_ge V _ _)
theorem hh_ge (s h : List UInt8) : s.length + h.length ≤ (hhB s h).length := by
  unfold hhB; split
  · simp; omega
  · simp only [List.length_append, List.length_singleton]; omega
mutual
theorem bdT_ge : ∀ (t : VT) (s p : List UInt8), s.length ≤ (bdT t s p).length
  | .mk k n u L K V, s, p => by
    rw [bdT]
    exact Nat.le_trans (plM_ge V K s) (bdM_ge V K _ p)
theorem bdM_ge : ∀ (V : List VT) (K : List ByteArray) (s p : List UInt8), s.length ≤ (bdM V K s p).length
  | [], K, s, p => by rw [bdM]; exact Nat.le_refl _
  | t :: r, K, s, p => by
    rw [bdM]
    exact Nat.le_trans (bdX_ge t s _) (bdM_ge r _ _ _)
theorem bdX_ge : ∀ (t : VT) (s q : List UInt8), s.length ≤ (bdX t s q).length
  | .mk k n u L K V, s, q => by
    rw [bdX]
    split
    · have h1 := hh_ge s (hd1 q)
      have h2 := plM_ge V K (hhB s (hd1 q))
      have h3 := bdM_ge V K (plM V K (hhB s (hd1 q))) q
      omega
    · split
      · exact bdL_ge L s q
      · exact Nat.le_refl _
theorem bdL_ge : ∀ (L : List VT) (s q : List UInt8), s.length ≤ (bdL L s q).length
  | [], s, q => by rw [bdL]; exact Nat.le_refl _
  | t :: r, s, q => by
    rw [bdL]
    have h1 := hh_ge s (hd2 q)
    have h2 := bdT_ge t (hhB s (hd2 q)) q
    have h3 := bdL_ge r (bdT t (hhB s (hd2 q)) q) q
    omega
end
end Go.Proofs.YtiaepihdfbahaaaGreatDoor
namespace Go.Proofs.YtiaepihdfbahaaaGreatDoor
open Go.RowKit

/-- a printer that has written these bytes -/
def Tr (w : World) (b : Nat) (l : List UInt8) : Prop := ∃ p v, w.heap[b]? = some (.cells #[p, v] 43 (0, 0)) ∧ (p = .pointer none ∨ p = .pointer (some ⟨b, 0, none⟩)) ∧ w.ownsRow (b + 1) 5 1 v l.length (Lib.strCells (mkS l))
/-- all but that printer, and rows of bytes above it, is as it was -/
def Kt (b : Nat) (w w' : World) : Prop := Below b w w' ∧ Lib.OthersKept 5 (some b) w w' ∧ w.heap.size ≤ w'.heap.size
theorem Kt.refl (b : Nat) (w : World) : Kt b w w := ⟨Below.refl _ _, Lib.OthersKept.refl _ _ _, Nat.le_refl _⟩
theorem Kt.trans {b : Nat} {w w1 w2 : World} (h : Kt b w w1) (g : Kt b w1 w2) : Kt b w w2 := ⟨h.1.trans g.1, h.2.1.trans g.2.1, Nat.le_trans h.2.2 g.2.2⟩
theorem tcell_heap {w : World} {b : Nat} {cs : Array Value} {t : TypeId} {fz : Nat × Nat} (h : w.heap[b]? = some (.cells cs t fz)) (j : Nat) : w.cell? ⟨b, j, none⟩ = cs[j]? := Lib.cell_of_heap h j
theorem Tryz.trI : ∃ j, Tryz.prog.info? 41 = some j ∧ j.size = 2 := by
  have h : (Tryz.prog.info? 41).map (·.size) = some 2 := by kernel_rfl
  obtain ⟨j, hj, hs⟩ := Option.map_eq_some_iff.1 h
  exact ⟨j, hj, hs⟩
set_option maxRecDepth 100000 in
set_option maxHeartbeats 1000000 in
theorem tcheck_used (b : Nat) (w : World) (h0 : w.cell? ⟨b, 0, none⟩ = some (.pointer (some ⟨b, 0, none⟩))) :
    Calls Tryz.prog 54 #[.pointer (some ⟨b, 0, none⟩)] w fun e w' => e = .returned (.tuple #[]) ∧ w' = w := by
  obtain ⟨j, hj, -⟩ := Tryz.trI
  go_enter Tryz.func54, Tryz.ntmps54
  go_wp2
  rw [Lib.run_neq_ptr_same w _ Tryz.underlying38 hj]
  go_wp2
  go_end0
  exact ⟨rfl, rfl⟩
set_option maxRecDepth 100000 in
set_option maxHeartbeats 1000000 in
theorem tcheck_fresh (b : Nat) (w : World) (h0 : w.cell? ⟨b, 0, none⟩ = some (.pointer none)) (hsh : w.shape? b = some (43, 2)) (hfz : w.frozen? ⟨b, 0, none⟩ = false) :
    Calls Tryz.prog 54 #[.pointer (some ⟨b, 0, none⟩)] w fun e w' => e = .returned (.tuple #[]) ∧ w' = w.setCell ⟨b, 0, none⟩ (.pointer (some ⟨b, 0, none⟩)) := by
  obtain ⟨j, hj, hjs⟩ := Tryz.trI
  go_enter Tryz.func54, Tryz.ntmps54
  go_wp2
  rw [Lib.run_to_unsafe w ⟨b, 0, none⟩ Tryz.underlying38 Tryz.underlying91 hj (by rw [hjs]; decide) hsh (show 0 < 2 by omega)]
  simp only [Result.andThen]
  rw [Oper.upon_value]
  go_wp2
  rw [run_callFunc_extern Tryz.func79 (by kernel_rfl) (by kernel_rfl) (by kernel_rfl) (e := Extern.AbiNoEscape.same) (by kernel_rfl)]
  rw [Lib.run_noEscape]
  simp only [Result.andThen]
  rw [Oper.upon_value]
  go_wp2
  rw [Lib.run_from_unsafe w ⟨b, 0, none⟩ Tryz.underlying91 Tryz.underlying38 hj hsh (by kernel_rfl)]
  simp only [Result.andThen]
  rw [Oper.upon_value]
  go_wp2
  go_end0
  exact ⟨rfl, rfl⟩
theorem tfrozen_heap {w : World} {b : Nat} {cs : Array Value} {t : TypeId} (h : w.heap[b]? = some (.cells cs t (0, 0))) (j : Nat) : w.frozen? ⟨b, j, none⟩ = false := Lib.frozen_of_heap h j
theorem theap_set {w : World} {b j : Nat} {cs : Array Value} {t : TypeId} {fz : Nat × Nat} (h : w.heap[b]? = some (.cells cs t fz)) (v : Value) : (w.setCell ⟨b, j, none⟩ v).heap[b]? = some (.cells (cs.setIfInBounds j v) t fz) := by
  simp [World.setCell, Array.getElem?_modify, h]
/-- behind copyCheck the printer holds its own address -/
theorem tcheck_any (b : Nat) (l : List UInt8) (w : World) (h : Tr w b l ) :
    Calls Tryz.prog 54 #[.pointer (some ⟨b, 0, none⟩)] w fun e w' => e = .returned (.tuple #[]) ∧ (∃ v, w'.heap[b]? = some (.cells #[.pointer (some ⟨b, 0, none⟩), v] 43 (0, 0)) ∧ w'.ownsRow (b + 1) 5 1 v l.length (Lib.strCells (mkS l))) ∧ Kt b w w' := by
  obtain ⟨p, v, hb, hp, hv⟩ := h
  rcases hp with rfl | rfl
  · refine (tcheck_fresh b w (by rw [tcell_heap hb]; rfl) (by simp [World.shape?, hb]) (tfrozen_heap hb 0)).mono ?_
    rintro e w' ⟨rfl, rfl⟩
    refine ⟨rfl, ⟨v, by rw [theap_set hb]; rfl, ?_⟩, (Below.refl _ _).setCell (Nat.le_refl b) _, (Lib.OthersKept.refl _ _ _).setCell ⟨b, 0, none⟩ rfl _, by simp⟩
    exact ownsRow_setCell_below hv (show b < b + 1 by omega) _
  · refine (tcheck_used b w (by rw [tcell_heap hb]; rfl)).mono ?_
    rintro e w' ⟨rfl, rfl⟩
    exact ⟨rfl, ⟨v, hb, hv⟩, Kt.refl _ _⟩
theorem theap_lt {w : World} {b : Nat} {o : Obj} (h : w.heap[b]? = some o) : b < w.heap.size := (Array.getElem?_eq_some_iff.1 h).1
theorem town_str {w : World} {base : Nat} {v : Value} {a : List UInt8} {m : ByteArray} (h : w.ownsRow base 5 1 v (a.length + m.size) (Lib.strCells (mkS a) ++ Lib.strCells m)) : w.ownsRow base 5 1 v (a ++ m.data.toList).length (Lib.strCells (mkS (a ++ m.data.toList))) :=
  own_app (mkS_of m _ rfl).symm h
theorem town_kind {w : World} {B : Nat} {e : TypeId} {v : Value} {n : Nat} {xs : List Value} (h : w.ownsRow B e 1 v n xs) : ∀ g, v.ownBlock = some g → ∃ c fz, w.heap[g]? = some (.cells c e fz) := Lib.ownsRowF_kind (World.ownsRowF_of h)
set_option maxRecDepth 100000 in
set_option maxHeartbeats 2000000 in
theorem twrite_any (b : Nat) (l : List UInt8) (s : ByteArray) (w : World) (h : Tr w b l ) (hlen : l.length + s.size ≤ 140737488355328) :
    Calls Tryz.prog 31 #[.pointer (some ⟨b, 0, none⟩), .string s] w fun e w' => e = .returned (.tuple #[.int .i64 s.size, .nilIface]) ∧ Tr w' b (l ++ s.data.toList)  ∧ Kt b w w' := by
  obtain ⟨i1, hi, hz0, hz1, hz2⟩ := info_parts Tryz.info_b
  have CC := hid (tcheck_any b l  w h)
  clear h
  go_enter Tryz.func31, Tryz.ntmps31
  go_wp2_with fail
  go_at_call 54
  refine CC.out.mono ?_
  rintro e w1 ⟨rfl, ⟨v, hbk, hown⟩, hkp⟩
  have hlt := theap_lt hbk
  have c0 : w1.cell? ⟨b, 0, none⟩ = some (.pointer (some ⟨b, 0, none⟩)) := by rw [tcell_heap hbk]; rfl
  have c1 : w1.cell? ⟨b, 1, none⟩ = some v := by rw [tcell_heap hbk]; rfl
  have HBK := hid hbk
  have HKP := hid hkp
  clear hbk hkp CC
  go_wp2_with (at_builtin; refine Lib.wpList_append_own_string _ rfl _ _ 39 9 rfl (b + 1) 5 i1 Tryz.underlying39 Tryz.underlying9 hi hz0 hz1 hz2 _ l.length _ rfl hown s rfl (by unfold maxLen; omega) (by omega) (by omega) ?_)
  intro v' w2 hown' hgrow _
  have hne : v.ownBlock ≠ some b := fun e => by have := (hown.lt b e).1; omega
  have hb2 : w2.heap[b]? = some (.cells #[.pointer (some ⟨b, 0, none⟩), v] 43 (0, 0)) := by
    rw [hgrow.block b hlt (fun e => hne e.symm)]
    exact HBK.out
  have d0 : w2.cell? ⟨b, 0, none⟩ = some (.pointer (some ⟨b, 0, none⟩)) := by rw [tcell_heap hb2]; rfl
  have d1 : w2.cell? ⟨b, 1, none⟩ = some v := by rw [tcell_heap hb2]; rfl
  have f1 : w2.frozen? ⟨b, 1, none⟩ = false := tfrozen_heap hb2 1
  obtain ⟨ao, n', cap, rfl⟩ : ∃ ao n' cap, v' = .slice ao n' cap := by
    rcases hown'.2 with ⟨hv, _⟩ | ⟨g, cap, cur, hv, _⟩
    · exact ⟨_, _, _, hv⟩
    · exact ⟨_, _, _, hv⟩
  have HO := hid hown'
  have HG := hid hgrow
  have HW := hid hown
  have HB2 := hid hb2
  clear hown' hgrow hown hb2
  go_wp2
  go_ret2
  refine ⟨rfl, ⟨.pointer (some ⟨b, 0, none⟩), .slice ao n' cap, ?_, Or.inr rfl, ?_⟩, ?_⟩
  · rw [theap_set HB2.out]; rfl
  · exact ownsRow_setCell_below (town_str HO.out) (show b < b + 1 by omega) _
  · refine HKP.out.trans ⟨?_, ?_, ?_⟩
    · exact ((Below.refl b w1).grown HG.out (by omega) (fun k hk => by have := (HW.out.lt k hk).1; omega)).setCell (p := ⟨b, 1, none⟩) (Nat.le_refl b) _
    · exact ((Lib.OthersKept.refl _ _ w1).grown HG.out (town_kind HW.out)).setCell ⟨b, 1, none⟩ rfl _
    · have := HG.out.size
      simpa using this
end Go.Proofs.YtiaepihdfbahaaaGreatDoor
namespace Go.Proofs.YtiaepihdfbahaaaGreatDoor
open Go.RowKit

theorem tstr_byte (l : List UInt8) : Lib.strCells (mkS l) = Lib.byteCells l := by
  unfold Lib.strCells Lib.byteCells
  rw [mkS_list]
set_option maxRecDepth 100000 in
set_option maxHeartbeats 1000000 in
theorem tstring_any (b : Nat) (l : List UInt8) (w : World) (h : Tr w b l ) (h0 : l ≠ []) :
    Calls Tryz.prog 17 #[.pointer (some ⟨b, 0, none⟩)] w fun e w' => e = .returned (.string (mkS l)) ∧ Below b w w' := by
  obtain ⟨p, v, hbk, hp, hown⟩ := h
  have hl0 : l.length ≠ 0 := by simpa using h0
  rw [tstr_byte] at hown
  obtain ⟨g, cap, cur, rfl, hbg, hg, hnc, hcm, hcs, htake⟩ : ∃ g cap cur, v = .slice (some ⟨g, 0, none⟩) l.length cap ∧ b + 1 ≤ g ∧ w.heap[g]? = some (.cells cur 5) ∧ l.length ≤ cap ∧ cap ≤ maxLen ∧ cur.size = cap * 1 ∧ cur.toList.take (l.length * 1) = Lib.byteCells l := by
    rcases hown.2 with ⟨_, hz⟩ | ⟨g, cap, cur, hv, r⟩
    · exact absurd hz hl0
    · exact ⟨g, cap, cur, hv, r⟩
  have c1 : w.drew.cell? ⟨b, 1, none⟩ = some (.slice (some ⟨g, 0, none⟩) l.length cap) := by
    have : w.drew.heap[b]? = some (.cells #[p, .slice (some ⟨g, 0, none⟩) l.length cap] 43 (0, 0)) := hbk
    rw [tcell_heap this]; rfl
  have hSD : (Builtin.unsafeSliceData_ #[39] 59 #[.slice (some ⟨g, 0, none⟩) l.length cap]).run Tryz.prog w.drew = .ok (.pointer (some ⟨g, 0, none⟩)) w.drew :=
    Lib.run_unsafeSliceData_row _ _ _ _ _ _ (by omega)
  have hUS : (Builtin.unsafeString_ #[59, 3] 9 #[.pointer (some ⟨g, 0, none⟩), .int .i64 l.length]).run Tryz.prog w.drew = .ok (.string ⟨l.toArray⟩) (w.drew.freeze ⟨g, 0, none⟩ l.length) := by
    refine Lib.run_unsafeString_row w.drew 59 3 9 5 Tryz.underlying59 (by kernel_rfl) g cur.size (by have hg' : w.drew.heap[g]? = some (.cells cur 5) := hg; simp [World.shape?, hg']) l h0 (by omega) (by unfold maxLen at hcm; omega) ?_
    intro j x hx
    have := hown.cells (g := g) rfl j (.int .u8 x.toNat) (by simp [Lib.byteCells, hx])
    exact this
  have mixed : Tryz.prog.follows .mixedOrders = true := by kernel_rfl
  go_enter Tryz.func17, Tryz.ntmps17
  go_wp2
  go_region_o
  all_goals (go_wp2; go_ret; exact ⟨rfl, Lib.below_freeze (Below.drew (Below.refl b w)) (p := ⟨g, 0, none⟩) (show b ≤ g by omega) _⟩)
theorem tr_len {w : World} {b : Nat} {l : List UInt8} (h : Tr w b l) : ∃ p o cap, w.heap[b]? = some (.cells #[p, .slice o l.length cap] 43 (0, 0)) := by
  obtain ⟨p, v, hbk, hp, hown⟩ := h
  rcases hown.2 with ⟨hv, hz⟩ | ⟨g, cap, cur, hv, _⟩
  · exact ⟨p, none, 0, by rw [hbk, hv, hz]⟩
  · exact ⟨p, _, cap, by rw [hbk, hv]⟩
set_option maxRecDepth 100000 in
set_option maxHeartbeats 1000000 in
theorem tlen_any (b : Nat) (l : List UInt8) (w : World) (h : Tr w b l) :
    Calls Tryz.prog 80 #[.pointer (some ⟨b, 0, none⟩)] w fun e w' => e = .returned (.int .i64 (l.length : Int)) ∧ w' = w := by
  obtain ⟨p, o, cap, hbk⟩ := tr_len h
  have c1 : w.cell? ⟨b, 1, none⟩ = some (.slice o l.length cap) := by rw [tcell_heap hbk]; rfl
  go_enter Tryz.func80, Tryz.ntmps80
  go_wp2_with fail
  go_ret
  exact ⟨rfl, rfl⟩
/-- of a printer that has written nothing yet -/
theorem tstring_nil (b : Nat) (w : World) (hbk : w.heap[b]? = some (.cells #[.pointer none, .slice none 0 0] 43 (0, 0))) :
    Calls Tryz.prog 17 #[.pointer (some ⟨b, 0, none⟩)] w fun e w' => e = .returned (.string ⟨#[]⟩) ∧ Below b w w' := by
  have c1 : w.drew.cell? ⟨b, 1, none⟩ = some (.slice none 0 0) := by
    have : w.drew.heap[b]? = some (.cells #[.pointer none, .slice none 0 0] 43 (0, 0)) := hbk
    rw [tcell_heap this]; rfl
  have hSD : (Builtin.unsafeSliceData_ #[39] 59 #[.slice none 0 0]).run Tryz.prog w.drew = .ok (.pointer none) w.drew := Lib.run_unsafeSliceData_nil w.drew _ _ _ _
  have hUS : (Builtin.unsafeString_ #[59, 3] 9 #[.pointer none, .int .i64 0]).run Tryz.prog w.drew = .ok (.string .empty) w.drew := Lib.run_unsafeString_none w.drew _ _ _ _
  have mixed : Tryz.prog.follows .mixedOrders = true := by kernel_rfl
  go_enter Tryz.func17, Tryz.ntmps17
  go_wp2
  go_region_o
  all_goals (go_wp2; go_ret; exact ⟨rfl, Below.drew (Below.refl b w)⟩)
end Go.Proofs.YtiaepihdfbahaaaGreatDoor
namespace Go.Proofs.YtiaepihdfbahaaaGreatDoor
open Go.RowKit

/-- the table of powers that the library's writing of a number reads -/
def GlobW (w : World) : Prop := Lib.TabIs Tryz.prog w "internal/strconv.uint64pow10" .u64 Lib.pow10Tab
theorem GlobW.on {w w' : World} (h : GlobW w) (hb : Below w.heap.size w w') : GlobW w' := var_on hb h
theorem wformat_any (n : Int) (w : World) (hg : GlobW w) (h : -9223372036854775808 ≤ n ∧ n < 9223372036854775808) :
    Calls Tryz.prog 114 #[.int .i64 n, .int .i64 10] w fun e w' => e = .returned (.string (mkS (txt n))) ∧ Below w.heap.size w w' := by
  refine (Tryz.strconv_FormatInt_10 n h.1 (by omega) w hg).mono ?_
  rintro e w' ⟨rfl, k, os, rfl⟩
  exact ⟨by rw [itoa_txt]; rfl, Lib.below_grow _ _ (Nat.le_refl _) _ _⟩
end Go.Proofs.YtiaepihdfbahaaaGreatDoor
namespace Go.Proofs
open Go.Shelf
def Tryz.lays121_ren : Go.Shelf.Ren := ⟨fun | 121 => 113 | 214 => 136 | n => n, fun | 4 => 4 | 9 => 9 | n => n, fun | n => n⟩
theorem Tryz.lays121 : Go.Proofs.Lays.n121 Tryz.prog Tryz.lays121_ren := {
  mixed := by kernel_rfl
  f121 := Tryz.func113.trans (congrArg some (by kernel_rfl))
  f214 := Tryz.func136.trans (congrArg some (by kernel_rfl))
  t4 := Tryz.underlying4
  a4 := Tryz.isAgg4
  z4 := Tryz.sizeOf4
  v4 := Tryz.zeroValue4
  t9 := Tryz.underlying9
  a9 := Tryz.isAgg9
  z9 := Tryz.sizeOf9
  v9 := Tryz.zeroValue9 }
open Go.RowKit in
theorem Tryz.strconv_FormatBool (b : Bool) (w : World) :
    Calls Tryz.prog 113 #[.bool b] w fun e w' => e = .returned (.string ⟨(Lib.formatBool b).toArray⟩) ∧ w' = w := Any.strconv_FormatBool Tryz.lays121 b w
end Go.Proofs
namespace Go.Proofs.YtiaepihdfbahaaaGreatDoor
open Go.RowKit

theorem tq_te {s : ByteArray} (h : teI s = 0) : s.size ≤ 4096 := by
  unfold teI at h
  split at h
  · split at h
    · omega
    · omega
  · omega
set_option maxRecDepth 100000 in
set_option maxHeartbeats 2000000 in
theorem tsingle_any (k n : Int) (s : ByteArray) (L V : List VT) (K : List ByteArray) (x y : Value) (w : World) (hg : GlobW w) (hn : -9223372036854775808 ≤ n ∧ n < 9223372036854775808) (hnode : nodeB (.mk k n s L K V) = true) (h5 : ¬ k = 5) (h6 : ¬ k = 6) :
    Calls Tryz.prog 78 #[.agg #[.int .i64 k, .int .i64 n, .string s, x, y]] w fun e w' => e = .returned (.string (mkS (sgS k n s))) ∧ Below w.heap.size w w' := by
  have hal := valloc_bel (Below.refl w.heap.size w) (.cells #[.int .i64 k, .int .i64 n, .string s, x, y] 27)
  have C2 := hid (fun X (hX : Below w.heap.size w X) => wformat_any n X (hg.on hX) hn)
  have HAL := hid hal
  clear hal hg
  unfold nodeB nodeC at hnode
  simp only [VT.kd, VT.nm, VT.st, VT.ls, VT.ks, VT.vs] at hnode
  have C4 := hid (fun X (h : s.size ≤ 100000) => tquote_any s X h)
  have CB := hid (fun (b : Bool) X => Tryz.strconv_FormatBool b X)
  by_cases h1 : k = 1
  · subst h1
    by_cases hn1 : n = 1
    · subst hn1
      go_enter Tryz.func78, Tryz.ntmps78
      go_wp2_with (go_at_call 113; go_must (refine (CB.out _ _).mono ?_; rintro e w1 ⟨rfl, rfl⟩))
      go_ret
      exact ⟨rfl, HAL.out⟩
    · have e : sgS 1 n s = [102, 97, 108, 115, 101] := by unfold sgS; rw [if_pos rfl, if_neg hn1]
      rw [e]
      have hb : (n == 1) = false := by simpa using hn1
      go_enter Tryz.func78, Tryz.ntmps78
      go_wp2_with (go_at_call 113; go_must (refine (CB.out _ _).mono ?_; rintro e w1 ⟨rfl, rfl⟩))
      go_ret
      exact ⟨rfl, HAL.out⟩
  by_cases h2 : k = 2
  · subst h2
    go_enter Tryz.func78, Tryz.ntmps78
    go_wp2_with (go_at_call 114; go_must (refine (C2.out _ HAL.out).mono ?_; rintro e w1 ⟨rfl, hb1⟩))
    go_ret
    exact ⟨rfl, vonto HAL.out hb1⟩
  by_cases h4 : k = 4
  · subst h4
    have hsz : s.size ≤ 100000 := by
      simp at hnode
      have := tq_te hnode.1.1.2
      omega
    go_enter Tryz.func78, Tryz.ntmps78
    go_wp2_with (go_at_call 25; go_must (refine (C4.out _ hsz).mono ?_; rintro e w1 ⟨rfl, hb1⟩))
    go_ret
    exact ⟨rfl, vonto HAL.out hb1⟩
  by_cases h37 : k = 3 ∨ k = 7 ∨ k = 0
  · have e : mkS (sgS k n s) = s := by
      unfold sgS; rw [if_neg h1, if_neg h2, if_neg h4]; exact (mkS_of s _ rfl).symm
    rw [e]
    rcases h37 with rfl | rfl | rfl
    all_goals
      go_enter Tryz.func78, Tryz.ntmps78
      go_wp2_with fail
      go_ret
      exact ⟨rfl, HAL.out⟩
  · exfalso
    have h3 : ¬ k = 3 := fun e => h37 (.inl e)
    have h7 : ¬ k = 7 := fun e => h37 (.inr (.inl e))
    have h0 : ¬ k = 0 := fun e => h37 (.inr (.inr e))
    simp [h0, h1, h2, h3, h4, h7, h5, h6] at hnode
end Go.Proofs.YtiaepihdfbahaaaGreatDoor
